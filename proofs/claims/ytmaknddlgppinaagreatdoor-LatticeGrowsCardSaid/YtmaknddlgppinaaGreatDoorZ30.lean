/-
  CUT and joined from the texts of this seat: Ij Ig
-/
import Derived.Test.YtmaknddlgppinaaGreatDoorZ29
import Derived.Test.YtmaknddlgppinaaGreatDoorZ11
import Derived.Deep.MidRow
set_option linter.unusedVariables false
set_option linter.unusedSimpArgs false
namespace Go.Proofs.YtmaknddlgppinaaGreatDoor
open Go.RowKit
theorem firstErr_nonneg {α : Type} {g : α → Int} (h : ∀ x, 0 ≤ g x) : ∀ l : List α, 0 ≤ firstErr g l
 | [] => Int.le_refl _
 | x :: r => by
  unfold firstErr
  split
  ·exact firstErr_nonneg h r
  ·exact h x
theorem firstErr_nonneg' {α : Type} {g : α → Int} : ∀ l : List α, (∀ x ∈ l, 0 ≤ g x) → 0 ≤ firstErr g l
 | [], _ => Int.le_refl _
 | x :: r, h => by
  unfold firstErr
  split
  ·exact firstErr_nonneg' r fun y hy => h y (List.mem_cons_of_mem _ hy)
  ·exact h x (by simp)
theorem nameE_nonneg (s : ByteArray) : 0 ≤ nameE s := by unfold nameE; split <;> decide
theorem encE_nonneg (l : List UInt8) : 0 ≤ encE l := by unfold encE; split; (· split <;> decide); (· decide)
theorem runesE_nonneg (s : ByteArray) : 0 ≤ runesE s := by
 unfold runesE
 split
 ·split <;> decide
 ·exact encE_nonneg _
theorem typeE_nonneg (s : ByteArray) : 0 ≤ typeE s := by unfold typeE; split <;> decide
theorem sigE_nonneg (s : ByteArray) : 0 ≤ sigE s := by
 unfold sigE res
 split
 ·decide
 ·split
  ·exact Int.le_refl 0
  ·show (0 : Int) ≤ 3
   decide
theorem pairE_nonneg (p : List Cn) (i j : Int) {E : ByteArray → Int} (h : ∀ s, 0 ≤ E s) : 0 ≤ pairE p i j E := by
 unfold pairE
 split
 ·exact h _
 ·exact nameE_nonneg _
theorem constE_nonneg (p : List Cn) (c : Cn) : 0 ≤ constE p c := by
 unfold constE
 split
 ·split
  ·unfold textE
   split
   ·exact runesE_nonneg _
   split
   ·exact nameE_nonneg _
   split
   ·exact typeE_nonneg _
   split
   ·exact pairE_nonneg _ _ _ typeE_nonneg
   split
   ·exact pairE_nonneg _ _ _ sigE_nonneg
   ·decide
  ·decide
 ·decide
theorem hdE_nonneg (p : List Cn) (a b : Int) {E : ByteArray → Int} (h : ∀ s, 0 ≤ E s) (m : Mb) : 0 ≤ hdE p a b E m := by
 unfold hdE
 split
 ·decide
 split
 ·exact pairE_nonneg _ _ _ h
 ·decide
theorem extraE_nonneg (m : Mb) : 0 ≤ extraE m := by unfold extraE; split <;> decide
theorem specE_nonneg (p : List Cn) (m : Mb) : 0 ≤ specE p m := by
 unfold specE
 split
 ·split <;> decide
 split
 ·split <;> decide
 ·decide
theorem hdlE_nonneg (p : List Cn) (n : Nat) (h : Hd) : 0 ≤ hdlE p n h := by
 unfold hdlE
 repeat' split
 all_goals decide
theorem bodyE_nonneg (p : List Cn) (m : Mb) : 0 ≤ bodyE p m := by
 unfold bodyE
 split
 ·exact extraE_nonneg _
 split
 ·decide
 split
 ·decide
 split
 ·decide
 split
 ·decide
 ·exact firstErr_nonneg (hdlE_nonneg _ _) _
theorem memsE_nonneg {parts : List (Mb → Int)} (h : ∀ g ∈ parts, ∀ m, 0 ≤ g m) (same : Mb → Mb → Bool) (ms : List Mb) : 0 ≤ memsE parts same ms := by
 unfold memsE
 split
 ·decide
 ·refine firstErr_nonneg (fun k => ?_) _
  unfold memE
  split
  ·split
   ·split <;> decide
   ·exact firstErr_nonneg' _ fun g hg => h g hg _
  ·decide
theorem encF_nonneg (f : Fl) : 0 ≤ encF f := by
 have hp : 0 ≤ partsE f := by
  unfold partsE
  split
  ·split
   ·split
    ·unfold methodsE
     refine memsE_nonneg (fun g hg m => ?_) _ _
     simp only [List.mem_cons, List.not_mem_nil, or_false] at hg
     rcases hg with rfl | rfl | rfl
     ·exact hdE_nonneg _ _ _ sigE_nonneg _
     ·exact specE_nonneg _ _
     ·exact bodyE_nonneg _ _
    ·unfold fieldsE
     refine memsE_nonneg (fun g hg m => ?_) _ _
     simp only [List.mem_cons, List.not_mem_nil, or_false] at hg
     rcases hg with rfl | rfl
     ·exact hdE_nonneg _ _ _ typeE_nonneg _
     ·exact extraE_nonneg _
   ·unfold classE
    repeat' split
    all_goals decide
  ·unfold poolE
   split
   ·decide
   ·exact firstErr_nonneg (constE_nonneg _) _
 unfold encF
 split
 ·split <;> decide
 ·exact hp
theorem encF_nat (f : Fl) : (((encF f).toNat : Nat) : Int) = encF f := by have := encF_nonneg f; omega
theorem fcs_at : ∀ (fs : List Fl) (i j : Nat) (f : Fl), fs[j]? = some f → fcs (fs.drop j) i = ((encF f).toNat, pcOf f i) :: fcs (fs.drop (j + 1)) (i + 1)
 | [], i, j, f, h => by simp at h
 | g :: fs, i, 0, f, h => by
  simp only [List.getElem?_cons_zero, Option.some.injEq] at h
  subst h
  rfl
 | g :: fs, i, j + 1, f, h => by
  rw [List.getElem?_cons_succ] at h
  simpa using fcs_at fs i j f h
/-- What is known while files are taken one after another: those ahead of j made the classes own. -/
structure Took2 (cs : List PC) (fs : List Fl) (j : Nat) (own : List PC) : Prop where
 len : own.length = j
 rest : addP (cs ++ own) (fcs (fs.drop j) j) j = addP cs (fcs fs 0) 0
 named : ∀ d ∈ own, d.name ≠ []
theorem Took2.start (cs : List PC) (fs : List Fl) : Took2 cs fs 0 [] := ⟨rfl, by simp, by simp⟩
theorem Took2.next {cs : List PC} {fs : List Fl} {j : Nat} {own : List PC} (h : Took2 cs fs j own) {f : Fl} (hf : fs[j]? = some f) (h0 : encF f = 0) (hn : ix (cs ++ own) (pcOf f j).name = none) : Took2 cs fs (j + 1) (own ++ [pcOf f j]) := by
 refine ⟨by simp [h.len], ?_, ?_⟩
 ·rw [← h.rest, fcs_at fs j j f hf]
  show _ = addP (cs ++ own) (((encF f).toNat, pcOf f j) :: fcs (fs.drop (j + 1)) (j + 1)) j
  conv => rhs; unfold addP
  rw [if_neg (by simp [h0]), if_neg (by simp [hn]), List.append_assoc]
 ·intro d hd
  rcases List.mem_append.1 hd with hd | hd
  ·exact h.named d hd
  ·obtain rfl := List.mem_singleton.1 hd
   exact pcOf_name h0 _
theorem Took2.wrong {cs : List PC} {fs : List Fl} {j : Nat} {own : List PC} (h : Took2 cs fs j own) {f : Fl} (hf : fs[j]? = some f) (h0 : encF f ≠ 0) : addP cs (fcs fs 0) 0 = .inr ((encF f).toNat, j) := by
 rw [← h.rest, fcs_at fs j j f hf]
 unfold addP
 have := encF_nonneg f
 rw [if_pos (by show (encF f).toNat ≠ 0; omega)]
theorem Took2.twice {cs : List PC} {fs : List Fl} {j : Nat} {own : List PC} (h : Took2 cs fs j own) {f : Fl} (hf : fs[j]? = some f) (h0 : encF f = 0) (hn : ix (cs ++ own) (pcOf f j).name ≠ none) : addP cs (fcs fs 0) 0 = .inr (15, j) := by
 rw [← h.rest, fcs_at fs j j f hf]
 unfold addP
 rw [if_neg (by simp [h0]), if_pos hn]
theorem Took2.ends {cs : List PC} {fs : List Fl} {own : List PC} (h : Took2 cs fs fs.length own) : addP cs (fcs fs 0) 0 = .inl (cs ++ own) := by
 rw [← h.rest, List.drop_length]
 rfl
/-- What becomes of files whose classes stand: by the first that cannot be below what it names, or above itself. -/
theorem openP_add {cs : List PC} {fs : List FC} {x : Nat × Nat} (h64 : fs.length ≤ 64) (h : addP cs fs 0 = .inr x) : openP cs fs = .inr x := by
 unfold openP
 rw [if_neg (by omega), h]
theorem openP_kind {cs ds : List PC} {fs : List FC} {x : Nat × Nat} (h64 : fs.length ≤ 64) (h : addP cs fs 0 = .inl ds) (h2 : firstE (kindE ds) (ds.drop cs.length) 0 = some x) : openP cs fs = .inr x := by
 unfold openP
 rw [if_neg (by omega), h]
 simp only
 rw [h2]
theorem openP_round {cs ds : List PC} {fs : List FC} {i : Nat} (h64 : fs.length ≤ 64) (h : addP cs fs 0 = .inl ds) (h2 : firstE (kindE ds) (ds.drop cs.length) 0 = none) (h3 : firstR ds cs.length fs.length 0 = some i) : openP cs fs = .inr (16, i) := by
 unfold openP
 rw [if_neg (by omega), h]
 simp only
 rw [h2]
 simp only
 rw [h3]
theorem openP_done {cs ds : List PC} {fs : List FC} (h64 : fs.length ≤ 64) (h : addP cs fs 0 = .inl ds) (h2 : firstE (kindE ds) (ds.drop cs.length) 0 = none) (h3 : firstR ds cs.length fs.length 0 = none) : openP cs fs = .inl ds := by
 unfold openP
 rw [if_neg (by omega), h]
 simp only
 rw [h2]
 simp only
 rw [h3]
theorem firstE_next {E : PC → Nat} {l : List PC} {m i : Nat} {c : PC} (hc : l[m]? = some c) : firstE E (l.drop m) i = if E c ≠ 0 then some (E c, i) else firstE E (l.drop (m + 1)) (i + 1) := by
 obtain ⟨hm, rfl⟩ := List.getElem?_eq_some_iff.1 hc
 rw [List.drop_eq_getElem_cons hm]
 rfl
theorem firstR_none_of (ds : List PC) (k : Nat) : ∀ (n i : Nat), (∀ j, i ≤ j → j < i + n → ¬ Abv ds (k + j) (k + j)) → firstR ds k n i = none
 | 0, _, _ => rfl
 | n + 1, i, h => by
  unfold firstR
  rw [if_neg (h i (Nat.le_refl _) (by omega))]
  exact firstR_none_of ds k n (i + 1) fun j h1 h2 => h j (by omega) (by omega)
theorem firstR_some_of (ds : List PC) (k : Nat) : ∀ (n i r : Nat), i ≤ r → r < i + n → Abv ds (k + r) (k + r) → (∀ j, i ≤ j → j < r → ¬ Abv ds (k + j) (k + j)) → firstR ds k n i = some r
 | 0, i, r, h1, h2, _, _ => absurd h2 (by omega)
 | n + 1, i, r, h1, h2, h3, h4 => by
  unfold firstR
  by_cases e : i = r
  ·subst e; rw [if_pos h3]
  ·rw [if_neg (h4 i (Nat.le_refl _) (by omega))]
   exact firstR_some_of ds k n (i + 1) r (by omega) (by omega) h3 fun j h1 h2 => h4 j (by omega) h2
/-- What the listed variable holds: the names of the built-in classes, and of those above them. -/
def blC (c : PC) : List Value := [.string ⟨c.name.toArray⟩, .string ⟨c.super.toArray⟩]
def blV : List Value := builtP.flatMap blC
def Blt (w : World) : Prop := ∀ (k : Nat) (v : Value), blV[k]? = some v → w.cell? ⟨0, k, none⟩ = some v
theorem Blt.lt {w : World} (h : Blt w) : 0 < w.heap.size := by
 have := h 0 _ rfl
 apply Classical.byContradiction
 intro hn
 have h0 : w.heap.size = 0 := by omega
 have : w.heap[0]? = none := by simp [h0]
 simp [World.cell?, this] at *
theorem Blt.below {w w' : World} (h : Blt w) (hb : Below w.heap.size w w') : Blt w' := fun k v hv => (hb.cell (p := ⟨0, k, none⟩) h.lt).trans (h k v hv)
theorem Blt.range {w : World} (h : Blt w) : w.rangeAt 0 0 blV := by
 intro j v hv
 rw [Nat.zero_add]
 exact h j v hv
theorem bl_info : (Tryz.prog.info? 149).map (·.size) = some blV.length := by kernel_rfl
theorem und149 : Tryz.prog.underlying 149 = some (.array 14 148) := by kernel_rfl
theorem bl_load {ops : Array Oper} {rest : List Oper} {op : Oper} {a : Act} {w : World} {Q : Exit → Act → World → Prop} (hgd : op.guard = none) (ho : op.op = .load 149 (.global 0)) (hx : a.eval (.global 0) = .pointer (some ⟨0, 0, none⟩)) (hN : Blt w)
  (h : wpList Tryz.prog ops Q rest (a.put op.dst (.agg blV.toArray)) w) : wpList Tryz.prog ops Q (op :: rest) a w :=
 wpList_load_mid hgd 149 _ ho 0 0 hx blV (.array 14 148) hN.range und149 rfl bl_info h
theorem bl_idx (w : World) : ∀ k : Nat, k < 14 → (Instr.index 149 (.agg blV.toArray) (.int .i64 (k : Int))).run Tryz.prog w = .ok (.agg #[.string ⟨(builtP[k]?.getD ⟨[], [], [], false, false, 0⟩).name.toArray⟩, .string ⟨(builtP[k]?.getD ⟨[], [], [], false, false, 0⟩).super.toArray⟩]) w
 | 0, _ => by kernel_rfl
 | 1, _ => by kernel_rfl
 | 2, _ => by kernel_rfl
 | 3, _ => by kernel_rfl
 | 4, _ => by kernel_rfl
 | 5, _ => by kernel_rfl
 | 6, _ => by kernel_rfl
 | 7, _ => by kernel_rfl
 | 8, _ => by kernel_rfl
 | 9, _ => by kernel_rfl
 | 10, _ => by kernel_rfl
 | 11, _ => by kernel_rfl
 | 12, _ => by kernel_rfl
 | 13, _ => by kernel_rfl
 | k + 14, h => absurd h (by omega)
/-- The table of the built-in classes that is being made: j of them stand. -/
structure BI (base nb mb j : Nat) (cl : Nat → Nat) (w : World) : Prop where
 at_ : AT base nb mb 0 (builtP.take j) cl w
 low : ∀ i, i < j → base ≤ cl i
 inj : ∀ i i', i < j → i' < j → cl i = cl i' → i = i'
 cls : ∀ i c, i < j → builtP[i]? = some c → ∃ k, KAt (cl i) k w ∧ k.place = i ∧ Nmd k c ∧ k.ifn = .slice none 0 0 ∧ k.above = .slice none 0 0 ∧ k.ifs = .slice none 0 0 ∧ k.up = ptrV cl (sup builtP i)
theorem BI.below {base nb mb j : Nat} {cl : Nat → Nat} {w w' : World} (h : BI base nb mb j cl w) (hb : Below w.heap.size w w') : BI base nb mb j cl w' :=
 ⟨h.at_.below hb, h.low, h.inj, fun i c hi hc => by
  obtain ⟨k, k1, k2⟩ := h.cls i c hi hc
  exact ⟨k, (hb.block _ (lt_of_block k1)).trans k1, k2⟩⟩
theorem BI.drewN {base nb mb j : Nat} {cl : Nat → Nat} {w : World} (h : BI base nb mb j cl w) (m : Nat) : BI base nb mb j cl (w.drewN m) := ⟨h.at_.drewN m, h.low, h.inj, h.cls⟩
theorem bl_all : ∀ c ∈ builtP, c.name.length ≤ 100 ∧ c.super.length ≤ 100 ∧ c.ifaces = [] ∧ c.iface = false ∧ c.abs = false ∧ c.at_ = -1 := by decide
theorem bl_sup : ∀ j : Fin 14, ∀ c, builtP[j.1]? = some c → ix (builtP.take j.1) c.super = ix builtP c.super := by
 have h : ∀ j : Fin 14, ix (builtP.take j.1) (builtP[j.1]'(by have := j.2; simp [builtP])).super = ix builtP (builtP[j.1]'(by have := j.2; simp [builtP])).super := by decide
 intro j c hc
 obtain ⟨_, rfl⟩ := List.getElem?_eq_some_iff.1 hc
 exact h j
theorem bl_ssz {j : Nat} {c : PC} (hc : builtP[j]? = some c) : (⟨c.super.toArray⟩ : ByteArray).size ≤ maxLen := by
 obtain ⟨_, b2, _⟩ := bl_all c (List.mem_of_getElem? hc)
 show c.super.toArray.size ≤ maxLen
 unfold maxLen
 simp
 omega
theorem bl_new {j : Nat} {c : PC} (hc : builtP[j]? = some c) : ix (builtP.take j) c.name = none := by
 rw [ix_none]
 intro d hd e
 obtain ⟨i, hi, rfl⟩ := List.getElem_of_mem hd
 have hi' : i < j ∧ i < builtP.length := by have := hi; rw [List.length_take] at this; omega
 have h1 : builtP[i]? = some ((builtP.take j)[i]) := by rw [List.getElem_take]; exact List.getElem?_eq_getElem hi'.2
 have := good_built.apart i j _ c h1 hc e
 omega
/-- One built-in class more. -/
theorem BI.add {base nb mb j : Nat} {cl : Nat → Nat} {W : World} (h : BI base nb mb j cl W) (hj : j < 14) {c : PC} (hc : builtP[j]? = some c) {p : Option Addr} (hp : ptrV cl (ix (builtP.take j) c.super) = .pointer p) :
  Calls Tryz.prog 100 #[.pointer (some ⟨nb, 0, none⟩), .pointer (some ⟨W.heap.size, 0, none⟩)] (W.alloc (.cells #[.string ⟨c.name.toArray⟩, .string ⟨c.super.toArray⟩, .slice none 0 0, .bool false, .bool false, .bool false, .int .i64 (-1), .int .i64 0, .pointer p, .slice none 0 0, .slice none 0 0] 116)) fun e w' =>
   e = .returned (.bool true) ∧ BI base nb mb (j + 1) (put2 cl j W.heap.size) w' ∧ Below base W w' ∧ (∀ (q : Nat) (cs : Array Value), q < W.heap.size → W.heap[q]? = some (.cells cs 148 (0, 0)) → w'.heap[q]? = some (.cells cs 148 (0, 0))) ∧ ptrV (put2 cl j W.heap.size) (ix (builtP.take (j + 1)) c.super) = .pointer p := by
 obtain ⟨k, hkk⟩ : ∃ k : KC, k = ⟨⟨c.name.toArray⟩, ⟨c.super.toArray⟩, .slice none 0 0, false, false, false, -1, 0, .pointer p, .slice none 0 0, .slice none 0 0⟩ := ⟨_, rfl⟩
 obtain ⟨b1, b2, b3, b4, b5, b6⟩ := bl_all c (List.mem_of_getElem? hc)
 have hk : KAt W.heap.size k (W.alloc (.cells #[.string ⟨c.name.toArray⟩, .string ⟨c.super.toArray⟩, .slice none 0 0, .bool false, .bool false, .bool false, .int .i64 (-1), .int .i64 0, .pointer p, .slice none 0 0, .slice none 0 0] 116)) := by
  rw [hkk]
  exact hheap_new W _
 have hbl := h.at_.blt
 have hnl := h.at_.nlt
 have hlen : (builtP.take j).length = j := by rw [List.length_take]; have : builtP.length = 14 := rfl; omega
 have hs1 : k.name.size ≤ 1000000 := by rw [hkk]; show c.name.toArray.size ≤ _; simp; omega
 have hsuc : builtP.take (j + 1) = builtP.take j ++ [c] := by rw [List.take_add_one, hc]; rfl
 refine (add_any (h.at_.below ((Below.refl _ _).alloc (Nat.le_refl _) _)) hk hbl (by omega) c (by rw [hkk]) hs1 (by omega)).mono ?_
 rintro e w' (⟨h1, _⟩ | ⟨h1, rfl, h2, h3, h4, h5⟩)
 ·exact absurd (bl_new hc) h1
 ·rw [hlen] at h2 h3
  have hold : ∀ i, i < j → cl i < W.heap.size := fun i hi => by
   obtain ⟨c', hc'⟩ : ∃ c', builtP[i]? = some c' := ⟨_, List.getElem?_eq_getElem (by have : builtP.length = 14 := rfl; omega)⟩
   obtain ⟨ki, k1, _⟩ := h.cls i c' hi hc'
   exact lt_of_block k1
  have hbe : Below base W w' := ((Below.refl _ _).alloc hbl _).trans h5
  have hup : ∀ i, i ≤ j → ptrV (put2 cl j W.heap.size) (sup builtP i) = ptrV cl (sup builtP i) := fun i hi => by
   cases hsu : sup builtP i with
   | none => rfl
   | some q =>
    have := up_built (sup_up hsu)
    simp only [ptrV]
    rw [put2_ne _ _ (by omega)]
  refine ⟨rfl, ⟨by rw [hsuc]; exact h2, fun i hi => ?_, fun i i' hi hi' e => ?_, fun i d hi hd => ?_⟩, hbe, fun q cs' hq hqq => ?_, ?_⟩
  ·by_cases e : i = j
   ·subst e; rw [put2_self]; exact hbl
   ·rw [put2_ne _ _ e]; exact h.low i (by omega)
  ·by_cases e1 : i = j <;> by_cases e2 : i' = j
   ·omega
   ·subst e1
    rw [put2_self, put2_ne _ _ e2] at e
    have := hold i' (by omega)
    omega
   ·subst e2
    rw [put2_self, put2_ne _ _ e1] at e
    have := hold i (by omega)
    omega
   ·rw [put2_ne _ _ e1, put2_ne _ _ e2] at e
    exact h.inj i i' (by omega) (by omega) e
  ·by_cases e1 : i = j
   ·subst e1
    rw [hc] at hd
    cases hd
    refine ⟨k.at i, by rw [put2_self]; exact h3, rfl, ⟨by rw [hkk]; rfl, hs1, by rw [hkk]; rfl, by rw [hkk]; show c.super.toArray.size ≤ _; simp; omega, by rw [hkk, b4]; rfl, by rw [hkk, b5]; rfl, by rw [hkk, b6]; rfl, by rw [b3]; simp⟩, by rw [hkk]; rfl, by rw [hkk]; rfl, by rw [hkk]; rfl, ?_⟩
    rw [hup i (Nat.le_refl _), sup_at hc, ← bl_sup ⟨i, hj⟩ c hc, hp, hkk]
    rfl
   ·obtain ⟨ki, k1, k2, k3, k4, k5, k6, k7⟩ := h.cls i d (by omega) hd
    have hlt := hold i (by omega)
    obtain ⟨v, t0, _⟩ := h.at_.t0
    refine ⟨ki, ?_, k2, k3, k4, k5, k6, by rw [k7, hup i (by omega)]⟩
    rw [put2_ne _ _ e1]
    exact h4.kat (by decide) (fun e => kat_table k1 t0 e.symm) (by omega) (hheap_alloc_lt k1)
  ·obtain ⟨v, t0, _⟩ := h.at_.t0
   refine h4.block q cs' 148 (0, 0) (by decide) (fun e => ?_) (by omega) (hheap_alloc_lt hqq)
   rw [e, t0] at hqq
   cases hqq
  ·rw [← hp, hsuc]
   cases hx : ix (builtP.take j) c.super with
   | some q =>
    rw [ix_app hx]
    have := ix_lt hx
    simp only [ptrV]
    rw [put2_ne _ _ (by omega)]
   | none =>
    have h1 := bl_sup ⟨j, hj⟩ c hc
    simp only at h1
    rw [hx] at h1
    have h2 : ix (builtP.take j ++ [c]) c.super = none := by
     rw [← hsuc]
     have h3 := ix_none.1 h1.symm
     exact ix_none.2 fun d hd => h3 d (List.mem_of_mem_take hd)
    rw [h2]
    rfl
theorem BI.lnk {base nb mb : Nat} {cl : Nat → Nat} {w : World} (h : BI base nb mb 14 cl w) : Lnk base 0 builtP.length builtP cl w := by
 have hl : builtP.length = 14 := rfl
 refine ⟨fun i _ hi => h.low i (by omega), fun i j _ _ hi hj e => h.inj i j (by omega) (by omega) e, fun i c _ hc => ?_⟩
 have hi := (List.getElem?_eq_some_iff.1 hc).1
 obtain ⟨k, k1, k2, k3, k4, k5, k6, k7⟩ := h.cls i c (by omega) hc
 obtain ⟨_, _, b3, _⟩ := bl_all c (List.mem_of_getElem? hc)
 refine ⟨k, k1, k2, k3, ?_, k5, fun _ => ⟨k7, ?_⟩, fun hf => absurd hf (by omega)⟩
 ·rw [k4, b3]; exact OwnS.nil _ _
 ·rw [k6, ifs_at hc, b3]
  exact World.ownsRow_nil _ _ _ _
theorem Fr.below {o n B : Nat} {cl : Nat → Nat} {w w' : World} (hF : Fr o n cl w w') (hB : ∀ i, o ≤ i → i < n → B ≤ cl i) (h2 : B ≤ w.heap.size) : Below B w w' :=
 ⟨hF.os, hF.tape, hF.output, hF.size, fun k hk => hF.block k (by omega) fun i h1 h2 e => by have := hB i h1 h2; omega⟩
set_option maxRecDepth 1000000 in
set_option maxHeartbeats 6400000 in
theorem builtinTable_any {w : World} (hN : Blt w) : Calls Tryz.prog 63 #[] w fun e w' => ∃ tb mb A cap cl sl S, e = .returned (.pointer (some ⟨tb, 0, none⟩)) ∧ HT w'.heap.size tb mb A cap 0 builtP cl sl S w' ∧ Below w.heap.size w w' := by
 have HN := Lib.hid hN
 have EX := Lib.hid (extended_nil (fun _ => 0) (w := w.alloc (.cells #[.slice none 0 0, .map none, .int .i64 0] 112)) (hheap_new w _))
 clear hN
 go_enter Tryz.func63, Tryz.ntmps63
 go_wp2_with fail
 refine EX.out.mono ?_
 rintro e w1 ⟨nb, mb, rfl, hat, hb⟩
 obtain ⟨base, hbase⟩ : ∃ b, b = (w.alloc (.cells #[.slice none 0 0, .map none, .int .i64 0] 112)).heap.size := ⟨_, rfl⟩
 rw [← hbase] at hat hb
 have hbz : base = w.heap.size + 1 := by rw [hbase]; simp
 have HBZ := Lib.hid (show w.heap.size ≤ base by omega)
 have hbw : Below w.heap.size w w1 := ((Below.refl _ _).alloc (Nat.le_refl _) _).trans (hb.mono (by omega))
 have HN1 := Lib.hid (HN.out.below hbw)
 have HAT := Lib.hid hat
 have HBW := Lib.hid hbw
 clear hat hb hbw hbase
 go_wp2_with (refine bl_load rfl rfl rfl HN1.out ?_)
 go_loopg [7] 14 (fun gk iv wx => ∃ (j : Nat) (cl : Nat → Nat), iv = .int .i64 j ∧ j + gk = 14 ∧ BI base nb mb j cl wx ∧ Below w.heap.size w wx)
 case atStart => exact ⟨0, fun _ => 0, rfl, by omega, ⟨HAT.out, fun i h => absurd h (by omega), fun i i' h => absurd h (by omega), fun i c h => absurd h (by omega)⟩, HBW.out⟩
 case round =>
  obtain ⟨j, cl, rfl, hjg, hbi, hbx⟩ := hrel
  have HBI := Lib.hid hbi
  have HBX := Lib.hid hbx
  have hbs := hbx.size
  by_cases hj : j < 14
  ·have hgg : gk - 1 < gk := by omega
   obtain ⟨c, hcx⟩ : ∃ c, builtP[j]? = some c := ⟨_, List.getElem?_eq_getElem hj⟩
   have hix : ∀ W, (Instr.index 149 (.agg blV.toArray) (.int .i64 (j : Int))).run Tryz.prog W = .ok (.agg #[.string ⟨c.name.toArray⟩, .string ⟨c.super.toArray⟩]) W := fun W => by
    have := bl_idx W j hj
    rw [hcx] at this
    exact this
   obtain ⟨v, t0, _⟩ := hbi.at_.t0
   have c1 : wr.cell? ⟨nb, 1, none⟩ = some (.map (some mb)) := by rw [kcells_of t0]; rfl
   have HM := Lib.hid hbi.at_.map
   have hnlt := lt_of_block t0
   have HCX := Lib.hid hcx
   clear hbi hbx t0 hcx
   go_wp2
   obtain ⟨F, hF⟩ : ∃ F, F = wr.alloc (.cells #[.string ⟨c.name.toArray⟩, .string ⟨c.super.toArray⟩] 148) := ⟨_, rfl⟩
   have hfb : F.heap[wr.heap.size]? = some (.cells #[.string ⟨c.name.toArray⟩, .string ⟨c.super.toArray⟩] 148 (0, 0)) := by rw [hF]; exact hheap_new _ _
   have hfw : Below wr.heap.size wr F := by rw [hF]; exact (Below.refl _ _).alloc (Nat.le_refl _) _
   have hlk : (Instr.lookup 110 (.map (some mb)) (.string ⟨c.super.toArray⟩) false).run Tryz.prog F.drew = .ok (ptrV cl (ix (builtP.take j) c.super)) F.drew := (HM.out.same (w' := F.drew) (hfw.block _ HM.out.lt)).look ⟨c.super.toArray⟩ (bl_ssz HCX.out)
   rw [← hF]
   have f0 := kcells_of hfb 0
   have f1 := kcells_of hfb 1
   have g1 : F.cell? ⟨nb, 1, none⟩ = some (.map (some mb)) := (hfw.cell (p := ⟨nb, 1, none⟩) hnlt).trans c1
   simp only [List.getElem?_toArray, List.getElem?_cons_succ, List.getElem?_cons_zero] at f0 f1
   have HFB := Lib.hid hfb
   have HFW := Lib.hid hfw
   obtain ⟨p, hp⟩ : ∃ p, ptrV cl (ix (builtP.take j) c.super) = .pointer p := by cases ix (builtP.take j) c.super <;> exact ⟨_, rfl⟩
   rw [hp] at hlk
   have HP := Lib.hid hp
   clear hF hfb hfw hp
   have KEY := Lib.hid (show Calls Tryz.prog 100 #[.pointer (some ⟨nb, 0, none⟩), .pointer (some ⟨F.heap.size, 0, none⟩)] (F.alloc (.cells #[.string ⟨c.name.toArray⟩, .string ⟨c.super.toArray⟩, .slice none 0 0, .bool false, .bool false, .bool false, .int .i64 (-1), .int .i64 0, .pointer p, .slice none 0 0, .slice none 0 0] 116)).drew _ from BI.add (W := F.drew) (p := p) ((HBI.out.below HFW.out).drewN 1) hj HCX.out HP.out)
   have HMF := Lib.hid (show TMap mb (builtP.take j) cl F from HM.out.same (HFW.out.block _ HM.out.lt))
   have hF0 := lt_of_block HFB.out
   have hF1 : nb < F.heap.size := Nat.lt_of_lt_of_le hnlt HFW.out.size
   have hlk2 : ∀ W, TMap mb (builtP.take j) cl W → (Instr.lookup 110 (.map (some mb)) (.string ⟨c.super.toArray⟩) false).run Tryz.prog W = .ok (.pointer p) W := fun W hW => by rw [← HP.out]; exact hW.look ⟨c.super.toArray⟩ (bl_ssz HCX.out)
   have HLK := Lib.hid hlk2
   clear hlk2
   go_region_held3 (fun w' => w'.cell? ⟨wr.heap.size, 0, none⟩ = some (.string ⟨c.name.toArray⟩) ∧ w'.cell? ⟨wr.heap.size, 1, none⟩ = some (.string ⟨c.super.toArray⟩) ∧ w'.cell? ⟨nb, 1, none⟩ = some (.map (some mb)) ∧ (Instr.lookup 110 (.map (some mb)) (.string ⟨c.super.toArray⟩) false).run Tryz.prog w' = .ok (.pointer p) w')
    (first
     | exact ⟨f0, f1, g1, hlk⟩
     | exact ⟨(World.cell?_alloc_lt F _ _ hF0).trans f0, (World.cell?_alloc_lt F _ _ hF0).trans f1, (World.cell?_alloc_lt F _ _ hF1).trans g1, HLK.out _ (HMF.out.same (Below.heap_alloc _ _ _ HMF.out.lt))⟩
     | exact ⟨q0, q1, q2, q3⟩)
    ((go_at_call 100; refine KEY.out.mono ?_; rintro e w2 ⟨rfl, hb2, hbel2, hbox, hpp⟩; have HB2 := Lib.hid hb2; have HBE2 := Lib.hid hbel2; have q0 := kcells_of (hbox _ _ hF0 HFB.out) 0; have q1 := kcells_of (hbox _ _ hF0 HFB.out) 1; simp only [List.getElem?_toArray, List.getElem?_cons_succ, List.getElem?_cons_zero] at q0 q1; obtain ⟨v2, t2, _⟩ := hb2.at_.t0; have q2 : w2.cell? ⟨nb, 1, none⟩ = some (.map (some mb)) := by { rw [kcells_of t2]; rfl }; have q3 : (Instr.lookup 110 (.map (some mb)) (.string ⟨c.super.toArray⟩) false).run Tryz.prog w2 = .ok (.pointer p) w2 := by { rw [← hpp]; exact hb2.at_.map.look ⟨c.super.toArray⟩ (bl_ssz HCX.out) }; clear hb2 hbel2 hbox hpp t2))
   go_wp2
   go_roundg (gk - 1)
   case measure => exact hgg
   case rel =>
    have hz := HFW.out.size
    exact ⟨j + 1, _, by go_num, by omega, HB2.out, (HBX.out.trans (HFW.out.mono hbs)).trans (Below.trans (Below.refl _ F).drew (HBE2.out.mono HBZ.out))⟩
  ·obtain rfl : j = 14 := by omega
   obtain ⟨v, t0, town⟩ := hbi.at_.t0
   obtain ⟨A', cap', rfl⟩ := hown_form town
   have hlen : (builtP.take 14).length = 14 := rfl
   have T0 := Lib.hid (show (wr.drewN 1).heap[nb]? = some (.cells #[.slice A' builtP.length cap', .map (some mb), .int .i64 ((0 : Nat) : Int)] 112 (0, 0)) from t0)
   have TC := Lib.hid (show 14 ≤ cap' by rcases town.2 with ⟨_, h⟩ | ⟨g, c2, cur, e, _, _, h, _⟩; (· cases h); (· injection e with _ _ e3; subst e3; exact h))
   have c0 : wr.cell? ⟨nb, 0, none⟩ = some (.slice A' 14 cap') := by rw [kcells_of t0]; rfl
   clear hbi hbx town t0
   go_wp2
   refine wp_region_still_tail 9 (by kernel_rfl) (by kernel_rfl) ?_
   change wpStill _ _ wr.drew _ _ _
   simp only [List.take_succ_cons, List.take_zero, List.drop_succ_cons, List.drop_zero]
   repeat still_step
   refine wpStill_nil ?_
   change wpList _ _ _ _ _ wr.drew
   go_wp2_with fail
   have hB := (HBI.out.drewN 1)
   have hat : AT base nb mb 0 builtP cl (wr.drewN 1) := hB.at_
   have hL := hB.lnk
   have hkown : ∀ i, 0 ≤ i → i < builtP.length → ∃ k, KAt (cl i) k (wr.drewN 1) := fun i h1 h2 => by
    obtain ⟨k, hk, _⟩ := hL.cls i _ h1 (List.getElem?_eq_getElem h2)
    exact ⟨k, hk⟩
   have hoc : OwnC 0 14 builtP.length cl A' (wr.drewN 1) := ownc_of hat hkown rfl T0.out (fun g hg _ => hg)
   have H0 := half_0 (sl := fun _ => 0) (S := fun _ => []) hat hL
   have hcap : 14 ≤ cap' := TC.out
   refine (show Calls Tryz.prog 81 #[.slice A' 14 cap', .int .i64 ((builtP.length : Nat) : Int)] (wr.drewN 1) _ from fillAbove_any (cs := builtP) H0 rfl rfl hcap hoc (Nat.le_refl _) (fun x j hx => dir_up hx) (fun i h => absurd h (by omega))).mono ?_
   rintro e w' ⟨rfl, sl', S', hT, hex, hF, hNm⟩
   obtain ⟨A2, cap2, HH⟩ := ht_0 hat hL hT hex hF hNm good_built
   have HHH := Lib.hid HH
   have HBB := Lib.hid (hF.below (B := w.heap.size) (fun i h1 h2 => Nat.le_trans HBZ.out (hL.low i h1 h2)) hbs)
   clear HH hT hex hF hNm H0 hoc hkown hL hat hB
   go_wp2
   go_ret
   exact ⟨nb, mb, A2, cap2, cl, sl', S', rfl, HHH.out, (show Below w.heap.size w (wr.drewN 1) from HBX.out.drew).trans HBB.out⟩
end Go.Proofs.YtmaknddlgppinaaGreatDoor
