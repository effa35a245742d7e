/-
  PLAIN: maps of references as bytes: what is written, what is read. No program in it.
-/
namespace Go.Proofs.Ytgepgbpjdjbelaa

/-- A map: which locals, which things on the stack. -/
abbrev MP := List Bool × List Bool
def bt (l : List Bool) (n : Nat) : Bool := (l[n]?).getD false
def b1 (b : Bool) (k : Nat) : Nat := if b then k else 0
def b8 (f : Nat → Bool) : Nat := b1 (f 0) 128 + b1 (f 1) 64 + b1 (f 2) 32 + b1 (f 3) 16 + b1 (f 4) 8 + b1 (f 5) 4 + b1 (f 6) 2 + b1 (f 7) 1
theorem b8_lt (f : Nat → Bool) : b8 f < 256 := by
  unfold b8 b1
  repeat' split
  all_goals omega
theorem b8_bits : ∀ (a b c d e g h i : Bool), let n := b1 a 128 + b1 b 64 + b1 c 32 + b1 d 16 + b1 e 8 + b1 g 4 + b1 h 2 + b1 i 1
    n.testBit 7 = a ∧ n.testBit 6 = b ∧ n.testBit 5 = c ∧ n.testBit 4 = d ∧ n.testBit 3 = e ∧ n.testBit 2 = g ∧ n.testBit 1 = h ∧ n.testBit 0 = i := by decide
theorem b8_bit (f : Nat → Bool) (r : Nat) (hr : r < 8) : (b8 f).testBit (7 - r) = f r := by
  obtain ⟨h7, h6, h5, h4, h3, h2, h1, h0⟩ := b8_bits (f 0) (f 1) (f 2) (f 3) (f 4) (f 5) (f 6) (f 7)
  unfold b8
  match r, hr with
  | 0, _ => exact h7
  | 1, _ => exact h6
  | 2, _ => exact h5
  | 3, _ => exact h4
  | 4, _ => exact h3
  | 5, _ => exact h2
  | 6, _ => exact h1
  | 7, _ => exact h0
def byteOf (l : List Bool) (j : Nat) : Nat := b8 fun t => bt l (8 * j + t)
theorem byteOf_lt (l : List Bool) (j : Nat) : byteOf l j < 256 := b8_lt _
def szB (n : Nat) : Nat := (n + 7) / 8
def packB (l : List Bool) : List UInt8 := (List.range (szB l.length)).map fun j => UInt8.ofNat (byteOf l j)
theorem packB_len (l : List Bool) : (packB l).length = szB l.length := by simp [packB]
theorem eq_of_bits {a b : Nat} (ha : a < 256) (hb : b < 256) (h : ∀ r, r < 8 → a.testBit (7 - r) = b.testBit (7 - r)) : a = b := by
  apply Nat.eq_of_testBit_eq
  intro i
  by_cases hi : i < 8
  · have := h (7 - i) (by omega)
    rwa [show 7 - (7 - i) = i by omega] at this
  · rw [Nat.testBit_lt_two_pow (Nat.lt_of_lt_of_le ha (show 2 ^ 8 ≤ 2 ^ i from Nat.pow_le_pow_right (by omega) (by omega))), Nat.testBit_lt_two_pow (Nat.lt_of_lt_of_le hb (show 2 ^ 8 ≤ 2 ^ i from Nat.pow_le_pow_right (by omega) (by omega)))]
/-- A bit is put into the byte that it stands in: the bytes of the first n bits become those of the first n + 1. -/
theorem byteOf_step {l : List Bool} {n : Nat} {b : Bool} (hb : l[n]? = some b) (j : Nat) :
    byteOf (l.take (n + 1)) j = if j = n / 8 ∧ b = true then byteOf (l.take n) j ||| 2 ^ (7 - n % 8) else byteOf (l.take n) j := by
  have hn := (List.getElem?_eq_some_iff.1 hb).1
  have hbt : ∀ t, bt (l.take (n + 1)) t = (bt (l.take n) t || (decide (t = n) && b)) := by
    intro t
    unfold bt
    rw [List.getElem?_take, List.getElem?_take]
    by_cases h1 : t < n
    · rw [if_pos (by omega), if_pos h1, decide_eq_false (by omega)]
      simp
    · by_cases h2 : t = n
      · subst h2
        rw [if_pos (by omega), if_neg (by omega), hb]
        simp
      · rw [if_neg (by omega), if_neg (by omega), decide_eq_false h2]
        simp
  apply eq_of_bits (byteOf_lt _ _)
  · split
    · exact Nat.or_lt_two_pow (n := 8) (byteOf_lt _ _) (Nat.pow_lt_pow_right (by omega) (by omega))
    · exact byteOf_lt _ _
  · intro r hr
    have hL : (byteOf (l.take (n + 1)) j).testBit (7 - r) = (bt (l.take n) (8 * j + r) || (decide (8 * j + r = n) && b)) := by
      unfold byteOf
      rw [b8_bit _ r hr, hbt]
    have hR : (byteOf (l.take n) j).testBit (7 - r) = bt (l.take n) (8 * j + r) := by
      unfold byteOf
      rw [b8_bit _ r hr]
    rw [hL]
    split
    · rename_i h
      rw [Nat.testBit_or, hR, Nat.testBit_two_pow, h.2]
      congr 1
      rw [Bool.and_true]
      by_cases e : 8 * j + r = n
      · rw [decide_eq_true e, decide_eq_true (by omega)]
      · rw [decide_eq_false e, decide_eq_false (by omega)]
    · rename_i h
      rw [hR]
      by_cases e : 8 * j + r = n
      · have : b = false := by
          cases b with
          | false => rfl
          | true => exact absurd ⟨by omega, rfl⟩ h
        rw [this]
        simp
      · rw [decide_eq_false e]
        simp
/-- The bytes in which the first n bits are laid. -/
def padB (sz : Nat) (l : List Bool) (n : Nat) : List Nat := (List.range sz).map (byteOf (l.take n))
theorem padB_len (sz : Nat) (l : List Bool) (n : Nat) : (padB sz l n).length = sz := by simp [padB]
theorem padB_zero (sz : Nat) (l : List Bool) : padB sz l 0 = List.replicate sz 0 := by
  apply List.ext_getElem?
  intro i
  unfold padB
  rw [List.getElem?_map, List.getElem?_replicate]
  by_cases h : i < sz
  · rw [List.getElem?_range h, if_pos h]
    simp [byteOf, b8, b1, bt]
  · rw [List.getElem?_eq_none (by simp; omega), if_neg h]
    rfl
theorem padB_no {l : List Bool} {n : Nat} (hb : l[n]? = some false) (sz : Nat) : padB sz l (n + 1) = padB sz l n := by
  unfold padB
  apply List.map_congr_left
  intro j _
  rw [byteOf_step hb, if_neg (by simp)]
theorem padB_yes {l : List Bool} {n : Nat} (hb : l[n]? = some true) (sz : Nat) : padB sz l (n + 1) = (padB sz l n).set (n / 8) (byteOf (l.take n) (n / 8) ||| 2 ^ (7 - n % 8)) := by
  apply List.ext_getElem?
  intro i
  unfold padB
  rw [List.getElem?_set, List.getElem?_map, List.getElem?_map]
  by_cases h : i < sz
  · rw [List.getElem?_range h]
    simp only [Option.map_some, List.length_map, List.length_range]
    rw [byteOf_step hb]
    by_cases e : n / 8 = i
    · subst e
      rw [if_pos (by simp), if_pos rfl, if_pos h]
    · rw [if_neg (by rintro ⟨e1, _⟩; exact e e1.symm), if_neg e]
  · rw [List.getElem?_eq_none (by simp; omega)]
    by_cases e : n / 8 = i
    · rw [if_pos e, if_neg (by simp; omega)]
      rfl
    · rw [if_neg e]
      rfl
theorem padB_full (l : List Bool) : padB (szB l.length) l l.length = (packB l).map fun c => c.toNat := by
  unfold padB packB
  rw [List.map_map, List.take_length]
  apply List.map_congr_left
  intro j _
  simp only [Function.comp]
  rw [UInt8.toNat_ofNat', Nat.mod_eq_of_lt (byteOf_lt _ _)]
theorem padB_at (sz : Nat) (l : List Bool) (n j : Nat) (hj : j < sz) : (padB sz l n)[j]? = some (byteOf (l.take n) j) := by
  unfold padB
  rw [List.getElem?_map, List.getElem?_range hj]
  rfl
/-- Bit n of bytes. -/
def getB (s : List UInt8) (n : Nat) : Bool := (((s[n / 8]?).getD 0).toNat).testBit (7 - n % 8)
theorem getB_packB (l : List Bool) (n : Nat) (h : n < 8 * szB l.length) : getB (packB l) n = bt l n := by
  unfold getB packB
  rw [List.getElem?_map, List.getElem?_range (by omega)]
  simp only [Option.map_some, Option.getD_some]
  rw [UInt8.toNat_ofNat', Nat.mod_eq_of_lt (byteOf_lt _ _)]
  unfold byteOf
  rw [b8_bit _ _ (by omega), show 8 * (n / 8) + n % 8 = n by omega]
theorem getB_ext {s t : List UInt8} (hl : s.length = t.length) (h : ∀ n, n < 8 * s.length → getB s n = getB t n) : s = t := by
  apply List.ext_getElem hl
  intro i h1 h2
  apply UInt8.toNat_inj.1
  apply eq_of_bits (UInt8.toNat_lt _) (UInt8.toNat_lt _)
  intro r hr
  have := h (8 * i + r) (by omega)
  unfold getB at this
  rw [show (8 * i + r) / 8 = i by omega, show (8 * i + r) % 8 = r by omega, List.getElem?_eq_getElem h1, List.getElem?_eq_getElem h2] at this
  exact this
theorem getB_take (s : List UInt8) (k n : Nat) (h : n < 8 * k) : getB (s.take k) n = getB s n := by
  unfold getB
  rw [List.getElem?_take, if_pos (by omega)]
theorem getB_app (s t : List UInt8) (n : Nat) (h : n < 8 * s.length) : getB (s ++ t) n = getB s n := by
  unfold getB
  rw [List.getElem?_append_left (by omega)]
/-- The first n bits. -/
def bitsN (s : List UInt8) (n : Nat) : List Bool := (List.range n).map (getB s)
theorem bitsN_len (s : List UInt8) (n : Nat) : (bitsN s n).length = n := by simp [bitsN]
theorem bt_bitsN (s : List UInt8) (n k : Nat) : bt (bitsN s n) k = (decide (k < n) && getB s k) := by
  unfold bt bitsN
  rw [List.getElem?_map]
  by_cases h : k < n
  · rw [List.getElem?_range h, decide_eq_true h]
    simp
  · rw [List.getElem?_eq_none (by simp; omega), decide_eq_false h]
    rfl
theorem bitsN_packB (l : List Bool) (r : List UInt8) : bitsN (packB l ++ r) l.length = l := by
  apply List.ext_getElem?
  intro i
  unfold bitsN
  rw [List.getElem?_map]
  by_cases h2 : i < l.length
  · rw [List.getElem?_range h2]
    simp only [Option.map_some]
    rw [getB_app _ _ _ (by rw [packB_len]; unfold szB; omega), getB_packB _ _ (by unfold szB; omega)]
    unfold bt
    rw [List.getElem?_eq_getElem h2]
    rfl
  · rw [List.getElem?_eq_none (by simp; omega), List.getElem?_eq_none (by omega)]
    rfl
/-- Where the bits are what was read, the bytes are what is written. -/
def hd2 (n : Nat) : List UInt8 := [UInt8.ofNat (n / 256 % 256), UInt8.ofNat (n % 256)]
def packM (m : MP) : List UInt8 := UInt8.ofNat m.1.length :: UInt8.ofNat m.2.length :: packB (m.1 ++ m.2)
def Fit (m : MP) : Prop := m.1.length ≤ 64 ∧ m.2.length ≤ 64
instance (m : MP) : Decidable (Fit m) := inferInstanceAs (Decidable (_ ∧ _))
/-- What is read of one map. -/
inductive RM where
  | no (e : Nat)
  | yes (m : MP) (r : List UInt8)
def readM : List UInt8 → RM
  | a :: b :: s =>
    if 64 < a.toNat ∨ 64 < b.toNat then .no 2
    else if s.length < szB (a.toNat + b.toNat) then .no 5
    else if packB (bitsN s (a.toNat + b.toNat)) = s.take (szB (a.toNat + b.toNat)) then
      .yes ((bitsN s (a.toNat + b.toNat)).take a.toNat, (bitsN s (a.toNat + b.toNat)).drop a.toNat) (s.drop (szB (a.toNat + b.toNat)))
    else .no 4
  | _ => .no 5
theorem readM_two (a b : UInt8) (s : List UInt8) : readM (a :: b :: s) = if 64 < a.toNat ∨ 64 < b.toNat then .no 2
    else if s.length < szB (a.toNat + b.toNat) then .no 5
    else if packB (bitsN s (a.toNat + b.toNat)) = s.take (szB (a.toNat + b.toNat)) then
      .yes ((bitsN s (a.toNat + b.toNat)).take a.toNat, (bitsN s (a.toNat + b.toNat)).drop a.toNat) (s.drop (szB (a.toNat + b.toNat)))
    else .no 4 := rfl
theorem readM_pack {m : MP} (h : Fit m) (r : List UInt8) : readM (packM m ++ r) = .yes m r := by
  obtain ⟨h1, h2⟩ := h
  unfold packM
  rw [List.cons_append, List.cons_append]
  unfold readM
  have e1 : (UInt8.ofNat m.1.length).toNat = m.1.length := by rw [UInt8.toNat_ofNat', Nat.mod_eq_of_lt (by omega)]
  have e2 : (UInt8.ofNat m.2.length).toNat = m.2.length := by rw [UInt8.toNat_ofNat', Nat.mod_eq_of_lt (by omega)]
  have el : (m.1 ++ m.2).length = m.1.length + m.2.length := List.length_append
  simp only [e1, e2]
  rw [if_neg (by omega), if_neg (by rw [List.length_append, packB_len, el]; omega), ← el, bitsN_packB, ← packB_len, List.take_left' rfl, if_pos rfl, List.drop_left' rfl]
  rw [List.take_left' rfl, List.drop_left' rfl]
theorem readM_yes {s : List UInt8} {m : MP} {r : List UInt8} (h : readM s = .yes m r) : s = packM m ++ r ∧ Fit m := by
  match s, h with
  | [], h => cases h
  | [_], h => cases h
  | a :: b :: s, h =>
    rw [readM_two] at h
    by_cases h1 : 64 < a.toNat ∨ 64 < b.toNat
    · rw [if_pos h1] at h
      cases h
    rw [if_neg h1] at h
    by_cases h2 : s.length < szB (a.toNat + b.toNat)
    · rw [if_pos h2] at h
      cases h
    rw [if_neg h2] at h
    by_cases h3 : packB (bitsN s (a.toNat + b.toNat)) = s.take (szB (a.toNat + b.toNat))
    · rw [if_pos h3] at h
      injection h with e1 e2
      have el := bitsN_len s (a.toNat + b.toNat)
      subst e1
      subst e2
      have ha : (List.take a.toNat (bitsN s (a.toNat + b.toNat))).length = a.toNat := by rw [List.length_take, el]; omega
      have hb : (List.drop a.toNat (bitsN s (a.toNat + b.toNat))).length = b.toNat := by rw [List.length_drop, el]; omega
      refine ⟨?_, ?_, ?_⟩
      · unfold packM
        simp only [ha, hb, List.take_append_drop, h3, UInt8.ofNat_toNat, List.cons_append]
      · simp only [ha]; omega
      · simp only [hb]; omega
    · rw [if_neg h3] at h
      cases h
/-- What is cut within a map is too short. -/
theorem readM_cut {m : MP} (h : Fit m) {s t : List UInt8} (hs : s ++ t = packM m) (ht : t ≠ []) : readM s = .no 5 := by
  obtain ⟨h1, h2⟩ := h
  match s with
  | [] => rfl
  | [_] => rfl
  | a :: b :: s =>
    unfold packM at hs
    simp only [List.cons_append, List.cons.injEq] at hs
    obtain ⟨rfl, rfl, hs⟩ := hs
    unfold readM
    have e1 : (UInt8.ofNat m.1.length).toNat = m.1.length := by rw [UInt8.toNat_ofNat', Nat.mod_eq_of_lt (by omega)]
    have e2 : (UInt8.ofNat m.2.length).toNat = m.2.length := by rw [UInt8.toNat_ofNat', Nat.mod_eq_of_lt (by omega)]
    simp only [e1, e2]
    have hl := congrArg List.length hs
    rw [List.length_append, packB_len, List.length_append] at hl
    have : 0 < t.length := List.length_pos_iff.2 ht
    rw [if_neg (by omega), if_pos (by omega)]
inductive RL where
  | no (e : Nat)
  | yes (l : List MP) (r : List UInt8)
def readL : Nat → List UInt8 → RL
  | 0, s => .yes [] s
  | n + 1, s => match readM s with
    | .no e => .no e
    | .yes m r => match readL n r with
      | .no e => .no e
      | .yes l q => .yes (m :: l) q
def packL (l : List MP) : List UInt8 := l.flatMap packM
theorem packL_cons (m : MP) (l : List MP) : packL (m :: l) = packM m ++ packL l := rfl
theorem packL_app (a b : List MP) : packL (a ++ b) = packL a ++ packL b := List.flatMap_append
theorem readL_pack : ∀ (l : List MP) (r : List UInt8), (∀ m ∈ l, Fit m) → readL l.length (packL l ++ r) = .yes l r
  | [], r, _ => rfl
  | m :: l, r, h => by
    rw [List.length_cons, readL, packL_cons, List.append_assoc, readM_pack (h m (by simp))]
    simp only
    rw [readL_pack l r (fun x hx => h x (by simp [hx]))]
theorem readL_yes : ∀ (n : Nat) {s : List UInt8} {l : List MP} {r : List UInt8}, readL n s = .yes l r → s = packL l ++ r ∧ l.length = n ∧ ∀ m ∈ l, Fit m
  | 0, s, l, r, h => by
    injection h with e1 e2
    subst e1; subst e2
    exact ⟨rfl, rfl, by simp⟩
  | n + 1, s, l, r, h => by
    rw [readL] at h
    split at h
    · cases h
    · rename_i m q e
      split at h
      · cases h
      · rename_i l2 q2 e3
        injection h with e1 e2
        subst e1; subst e2
        obtain ⟨h1, h2⟩ := readM_yes e
        obtain ⟨h3, h4, h5⟩ := readL_yes n e3
        refine ⟨by rw [packL_cons, List.append_assoc, ← h3, h1], by simp [h4], ?_⟩
        intro x hx
        rcases List.mem_cons.1 hx with rfl | hx
        · exact h2
        · exact h5 x hx
theorem readL_cut : ∀ (l : List MP) {s t : List UInt8}, (∀ m ∈ l, Fit m) → s ++ t = packL l → t ≠ [] → readL l.length s = .no 5
  | [], s, t, _, hs, ht => by
    have : t = [] := by
      have := congrArg List.length hs
      simp [packL] at this
      exact this.2
    exact absurd this ht
  | m :: l, s, t, h, hs, ht => by
    rw [packL_cons] at hs
    rw [List.length_cons, readL]
    rcases List.append_eq_append_iff.1 hs with ⟨u, e1, e2⟩ | ⟨u, e1, e2⟩
    · by_cases hu : u = []
      · subst hu
        rw [List.append_nil] at e1
        rw [List.nil_append] at e2
        have := readM_pack (h m (by simp)) []
        rw [List.append_nil] at this
        rw [e1] at this
        rw [this]
        simp only
        rw [readL_cut l (s := []) (t := t) (fun x hx => h x (by simp [hx])) (by rw [List.nil_append]; exact e2) ht]
      · rw [readM_cut (h m (by simp)) e1.symm hu]
    · rw [e1, readM_pack (h m (by simp))]
      simp only
      rw [readL_cut l (fun x hx => h x (by simp [hx])) e2.symm ht]
/-- What Pack answers. -/
def pkE (l : List MP) : Nat := if 4096 < l.length then 3 else if ∀ m ∈ l, Fit m then 0 else 2
def pkS (l : List MP) : List UInt8 := if pkE l = 0 then hd2 l.length ++ packL l else []
/-- What Unpack answers. -/
def unp : List UInt8 → List MP × Nat
  | a :: b :: s => if 4096 < a.toNat * 256 + b.toNat then ([], 3) else match readL (a.toNat * 256 + b.toNat) s with
    | .no e => ([], e)
    | .yes l r => if r = [] then (l, 0) else ([], 6)
  | _ => ([], 5)
theorem unp_two (a b : UInt8) (s : List UInt8) : unp (a :: b :: s) = if 4096 < a.toNat * 256 + b.toNat then ([], 3) else match readL (a.toNat * 256 + b.toNat) s with
    | .no e => ([], e)
    | .yes l r => if r = [] then (l, 0) else ([], 6) := rfl
theorem readL_ne : ∀ (n : Nat) (s : List UInt8), readL n s ≠ .no 0 := by
  intro n
  induction n with
  | zero => intro s h; cases h
  | succ n ih =>
    intro s h
    rw [readL] at h
    split at h
    · rename_i e he
      injection h with h
      subst h
      match s, he with
      | [], he => cases he
      | [_], he => cases he
      | a :: b :: s, he =>
        rw [readM_two] at he
        by_cases h1 : 64 < a.toNat ∨ 64 < b.toNat
        · rw [if_pos h1] at he
          cases he
        rw [if_neg h1] at he
        by_cases h2 : s.length < szB (a.toNat + b.toNat)
        · rw [if_pos h2] at he
          cases he
        rw [if_neg h2] at he
        by_cases h3 : packB (bitsN s (a.toNat + b.toNat)) = s.take (szB (a.toNat + b.toNat))
        · rw [if_pos h3] at he
          cases he
        · rw [if_neg h3] at he
          cases he
    · split at h
      · rename_i e he
        injection h with h
        subst h
        exact ih _ he
      · cases h
theorem pkE_ok {l : List MP} : pkE l = 0 ↔ l.length ≤ 4096 ∧ ∀ m ∈ l, Fit m := by
  unfold pkE
  split
  · exact ⟨by omega, fun h => by omega⟩
  · split
    · rename_i h1 h2
      exact ⟨fun _ => ⟨by omega, h2⟩, fun _ => rfl⟩
    · rename_i h1 h2
      exact ⟨by omega, fun h => absurd h.2 h2⟩
theorem hd2_num {n : Nat} (h : n ≤ 4096) : (UInt8.ofNat (n / 256 % 256)).toNat * 256 + (UInt8.ofNat (n % 256)).toNat = n := by
  rw [UInt8.toNat_ofNat', UInt8.toNat_ofNat']
  omega
theorem unp_pk {l : List MP} (h : pkE l = 0) : unp (pkS l) = (l, 0) := by
  obtain ⟨h1, h2⟩ := pkE_ok.1 h
  unfold pkS
  rw [if_pos h]
  show unp (_ :: _ :: packL l) = _
  rw [unp_two, hd2_num h1, if_neg (by omega)]
  have := readL_pack l [] h2
  rw [List.append_nil] at this
  rw [this]
  simp
theorem unp_rest {l : List MP} (h : pkE l = 0) (c : UInt8) : unp (pkS l ++ [c]) = ([], 6) := by
  obtain ⟨h1, h2⟩ := pkE_ok.1 h
  unfold pkS
  rw [if_pos h]
  show unp (_ :: _ :: (packL l ++ [c])) = _
  rw [unp_two, hd2_num h1, if_neg (by omega), readL_pack l [c] h2]
  simp
theorem pkS_pos {l : List MP} (h : pkE l = 0) : 2 ≤ (pkS l).length := by
  unfold pkS
  rw [if_pos h]
  simp [hd2]
theorem unp_cut {l : List MP} (h : pkE l = 0) {k : Nat} (hk : k < (pkS l).length) : unp ((pkS l).take k) = ([], 5) := by
  obtain ⟨h1, h2⟩ := pkE_ok.1 h
  have e : pkS l = UInt8.ofNat (l.length / 256 % 256) :: UInt8.ofNat (l.length % 256) :: packL l := by
    unfold pkS
    rw [if_pos h]
    rfl
  rw [e] at hk ⊢
  match k, hk with
  | 0, _ => rfl
  | 1, _ => rfl
  | k + 2, hk =>
    simp only [List.take_succ_cons, List.length_cons] at hk ⊢
    rw [unp_two, hd2_num h1, if_neg (by omega), readL_cut l h2 (List.take_append_drop k _) (by simp; omega)]
theorem unp_yes {s : List UInt8} {l : List MP} (h : unp s = (l, 0)) : pkE l = 0 ∧ pkS l = s := by
  match s, h with
  | [], h => cases h
  | [_], h => cases h
  | a :: b :: s, h =>
    rw [unp_two] at h
    by_cases hn : 4096 < a.toNat * 256 + b.toNat
    · rw [if_pos hn] at h
      cases h
    rw [if_neg hn] at h
    cases he : readL (a.toNat * 256 + b.toNat) s with
    | no e =>
      rw [he] at h
      injection h with e1 e2
      subst e2
      exact absurd he (readL_ne _ _)
    | yes l2 r =>
      rw [he] at h
      simp only at h
      by_cases hr : r = []
      · rw [if_pos hr] at h
        injection h with e1 e2
        subst e1
        obtain ⟨h3, h4, h5⟩ := readL_yes _ he
        have ha := UInt8.toNat_lt a
        have hb := UInt8.toNat_lt b
        have h0 : pkE l2 = 0 := pkE_ok.2 ⟨by omega, h5⟩
        refine ⟨h0, ?_⟩
        unfold pkS
        rw [if_pos h0, h3, hr, List.append_nil]
        unfold hd2
        have e1 : l2.length / 256 % 256 = a.toNat := by omega
        have e2 : l2.length % 256 = b.toNat := by omega
        rw [e1, e2, UInt8.ofNat_toNat, UInt8.ofNat_toNat]
        rfl
      · rw [if_neg hr] at h
        cases h
theorem unp_no {s : List UInt8} (h : (unp s).2 ≠ 0) : (unp s).1 = [] := by
  match s, h with
  | [], h => rfl
  | [_], h => rfl
  | a :: b :: s, h =>
    rw [unp_two] at h ⊢
    by_cases hn : 4096 < a.toNat * 256 + b.toNat
    · rw [if_pos hn]
    rw [if_neg hn] at h ⊢
    cases he : readL (a.toNat * 256 + b.toNat) s with
    | no e => rfl
    | yes l2 r =>
      rw [he] at h
      simp only at h ⊢
      by_cases hr : r = []
      · rw [if_pos hr] at h
        exact absurd rfl h
      · rw [if_neg hr]

/-! ### the bits one by one -/
/-- Bit n of l is put into the bytes. -/
def putB (l : List Bool) (bs : List Nat) (n : Nat) : List Nat := if bt l n then bs.set (n / 8) ((bs[n / 8]?).getD 0 ||| 2 ^ (7 - n % 8)) else bs
theorem putB_pad {l : List Bool} {n sz : Nat} (h : n < l.length) (hs : l.length ≤ 8 * sz) : putB l (padB sz l n) n = padB sz l (n + 1) := by
  have hn : l[n]? = some l[n] := List.getElem?_eq_getElem h
  unfold putB bt
  rw [hn]
  generalize l[n] = b at hn
  cases b with
  | false => rw [padB_no hn]; rfl
  | true =>
    rw [padB_yes hn, padB_at sz l n _ (by omega)]
    rfl
theorem fold_putB {l : List Bool} {sz : Nat} (hs : l.length ≤ 8 * sz) : ∀ n, n ≤ l.length → (List.range n).foldl (putB l) (List.replicate sz 0) = padB sz l n
  | 0, _ => (padB_zero sz l).symm
  | n + 1, h => by
    rw [List.range_succ, List.foldl_append, fold_putB hs n (by omega)]
    exact putB_pad (by omega) hs
theorem range_fin (N : Nat) : (List.finRange N).map (fun x => x.1) = List.range N := by
  apply List.ext_getElem
  · simp
  · intro i h1 h2
    simp
/-- What the bytes are when the bits of these places have been put in. -/
def putF {N : Nat} (l : List Bool) (sz : Nat) (pre : List (Fin N)) : List Nat := pre.foldl (fun bs x => putB l bs x.1) (List.replicate sz 0)
theorem putF_snoc {N : Nat} (l : List Bool) (sz : Nat) (pre : List (Fin N)) (x : Fin N) : putF l sz (pre ++ [x]) = putB l (putF l sz pre) x.1 := by
  unfold putF
  rw [List.foldl_append]
  rfl
theorem putF_all {N : Nat} {l : List Bool} (hl : l.length = N) : putF l (szB N) (List.finRange N) = (packB l).map fun c => c.toNat := by
  subst hl
  rw [← padB_full, ← fold_putB (sz := szB l.length) (by unfold szB; omega) l.length (Nat.le_refl _), ← range_fin, List.foldl_map]
  rfl
theorem putB_inv {l : List Bool} {bs : List Nat} {n : Nat} (h : ∀ b ∈ bs, b < 256) : (putB l bs n).length = bs.length ∧ ∀ b ∈ putB l bs n, b < 256 := by
  unfold putB
  split
  · refine ⟨by simp, fun b hb => ?_⟩
    rcases List.mem_or_eq_of_mem_set hb with hb | rfl
    · exact h b hb
    · refine Nat.or_lt_two_pow (n := 8) ?_ (Nat.pow_lt_pow_right (by omega) (by omega))
      cases e : bs[n / 8]? with
      | none => simp
      | some x => exact h x (List.mem_of_getElem? e)
  · exact ⟨rfl, h⟩
theorem putF_inv {N : Nat} (l : List Bool) (sz : Nat) (pre : List (Fin N)) : (putF l sz pre).length = sz ∧ ∀ b ∈ putF l sz pre, b < 256 := by
  have key : ∀ (pre : List (Fin N)) (bs : List Nat), (∀ b ∈ bs, b < 256) → (pre.foldl (fun bs x => putB l bs x.1) bs).length = bs.length ∧ ∀ b ∈ pre.foldl (fun bs x => putB l bs x.1) bs, b < 256 := by
    intro pre
    induction pre with
    | nil => intro bs h; exact ⟨rfl, h⟩
    | cons x r ih =>
      intro bs h
      obtain ⟨h1, h2⟩ := putB_inv (l := l) (n := x.1) h
      obtain ⟨h3, h4⟩ := ih _ h2
      exact ⟨h3.trans h1, h4⟩
  have := key pre (List.replicate sz 0) (fun b hb => by rw [(List.mem_replicate.1 hb).2]; omega)
  exact ⟨by unfold putF; rw [this.1]; simp, this.2⟩
/-- What the bools are when the bits of these places have been read. -/
def getF {N : Nat} (s : List UInt8) (pre : List (Fin N)) : List Bool := pre.foldl (fun c x => c.set x.1 (getB s x.1)) (List.replicate N false)
theorem getF_snoc {N : Nat} (s : List UInt8) (pre : List (Fin N)) (x : Fin N) : getF s (pre ++ [x]) = (getF s pre).set x.1 (getB s x.1) := by
  unfold getF
  rw [List.foldl_append]
  rfl
theorem getF_len {N : Nat} (s : List UInt8) (pre : List (Fin N)) : (getF s pre).length = N := by
  have key : ∀ (pre : List (Fin N)) (c : List Bool), (pre.foldl (fun c x => c.set x.1 (getB s x.1)) c).length = c.length := by
    intro pre
    induction pre with
    | nil => intro c; rfl
    | cons x r ih => intro c; rw [List.foldl_cons, ih]; simp
  unfold getF
  rw [key]
  simp
theorem getF_all {N : Nat} (s : List UInt8) : getF s (List.finRange N) = bitsN s N := by
  have key : ∀ n, n ≤ N → (List.range n).foldl (fun c x => c.set x (getB s x)) (List.replicate N false) = bitsN s n ++ List.replicate (N - n) false := by
    intro n
    induction n with
    | zero => intro _; simp [bitsN]
    | succ n ih =>
      intro h
      rw [List.range_succ, List.foldl_append, ih (by omega)]
      simp only [List.foldl_cons, List.foldl_nil]
      rw [List.set_append_right _ _ (by rw [bitsN_len]; omega), bitsN_len, Nat.sub_self]
      obtain ⟨k, hk⟩ : ∃ k, N - n = k + 1 := ⟨N - n - 1, by omega⟩
      rw [hk, show N - (n + 1) = k by omega, List.replicate_succ, List.set_cons_zero]
      unfold bitsN
      rw [List.range_succ, List.map_append]
      simp
  have := key N (Nat.le_refl _)
  rw [Nat.sub_self, List.replicate_zero, List.append_nil, ← range_fin, List.foldl_map] at this
  exact this
end Go.Proofs.Ytgepgbpjdjbelaa
