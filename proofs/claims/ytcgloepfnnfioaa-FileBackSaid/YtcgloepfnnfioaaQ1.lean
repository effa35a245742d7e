/-
  PLAIN: what the reader answers over what the writer wrote.
  PLAIN: the reader's file, over what the writer wrote.
  PLAIN: what the reader takes without an error is what the writer writes of what it reads.
  PLAIN: what is cut off a file is too short.
  PLAIN: a file that may be lies in the bounds of the reader, and has nothing that is not read back.
-/
import Derived.Test.YtcgloepfnnfioaaP6
import Derived.Test.YtcgloepfnnfioaaA4
import Derived.Test.YtcgloepfnnfioaaA6
set_option linter.unusedVariables false
set_option linter.unusedSimpArgs false
namespace Go.Proofs.Ytcgloepfnnfioaa
open Go.RowKit

theorem tk_app (a r : List UInt8) (n : Nat) (h : a.length = n) : tk n (a ++ r) 0 = (a, r, 0) := by
  subst h
  unfold tk
  rw [if_pos rfl, if_pos (by simp), List.take_left, List.drop_left]
theorem fold_cons (l : List UInt8) : ∀ x : Int, l.foldl (fun n b => n * 256 + (b.toNat : Int)) x = x * 256 ^ l.length + beV l := by
  induction l with
  | nil => intro x; simp [beV]
  | cons b l ih =>
    intro x
    unfold beV
    rw [List.foldl_cons, List.foldl_cons, ih, ih (0 * 256 + _), List.length_cons, Int.pow_succ, Int.add_mul]
    rw [Int.zero_mul, Int.zero_add, Int.mul_comm (256 ^ l.length) 256, ← Int.mul_assoc, Int.add_assoc]
theorem beV_cons (b : UInt8) (l : List UInt8) : beV (b :: l) = (b.toNat : Int) * 256 ^ l.length + beV l := by
  have := fold_cons l (0 * 256 + (b.toNat : Int))
  rw [Int.zero_mul, Int.zero_add] at this
  show (b :: l).foldl _ 0 = _
  rw [List.foldl_cons, Int.zero_mul, Int.zero_add]
  exact this
theorem byteAt_toNat (n : Int) (k : Nat) : ((byteAt n k).toNat : Int) = n / 256 ^ k % 256 := by
  have h0 : 0 ≤ n / 256 ^ k % 256 := Int.emod_nonneg _ (by decide)
  have h1 : n / 256 ^ k % 256 < 256 := Int.emod_lt_of_pos _ (by decide)
  unfold byteAt
  rw [UInt8.toNat_ofNat']
  omega
theorem pow_pos256 (k : Nat) : (0 : Int) < 256 ^ k := Int.pow_pos (by decide)
theorem beV_beN : ∀ (k : Nat) (n : Int), beV (beN k n) = n % 256 ^ k
  | 0, n => by simp [beN, beV, Int.emod_one]
  | k + 1, n => by
    rw [beN, beV_cons, beN_length, beV_beN k n, byteAt_toNat]
    have hp := pow_pos256 k
    have h2 := Int.emod_nonneg n (Int.ne_of_gt hp)
    have h3 := Int.emod_lt_of_pos n hp
    have h4 := Int.emod_nonneg (n / 256 ^ k) (show (256 : Int) ≠ 0 by decide)
    have h5 := Int.emod_lt_of_pos (n / 256 ^ k) (show (0 : Int) < 256 by decide)
    have h6 := Int.mul_ediv_add_emod n (256 ^ k)
    have h7 := Int.mul_ediv_add_emod (n / 256 ^ k) 256
    have hE : n = (n / 256 ^ k % 256 * 256 ^ k + n % 256 ^ k) + (256 ^ k * 256) * (n / 256 ^ k / 256) := by
      conv => lhs; rw [← h6, ← h7]
      rw [Int.mul_add, Int.mul_assoc, Int.mul_comm (n / 256 ^ k % 256)]
      omega
    rw [Int.pow_succ]
    conv => rhs; rw [hE, Int.add_mul_emod_self_left]
    refine (Int.emod_eq_of_lt (Int.add_nonneg (Int.mul_nonneg h4 (Int.le_of_lt hp)) h2) ?_).symm
    have h8 : n / 256 ^ k % 256 * 256 ^ k ≤ 255 * 256 ^ k := Int.mul_le_mul_of_nonneg_right (by omega) (Int.le_of_lt hp)
    omega
theorem rdN_beN (k : Nat) (n : Int) (r : List UInt8) (hk : k ≤ 7) (h0 : 0 ≤ n) (h1 : n < 256 ^ k) : rdN k (beN k n ++ r) 0 = (n, r, 0) := by
  unfold rdN
  rw [tk_app _ r k (beN_length k n)]
  simp only
  rw [beV_beN, Int.emod_eq_of_lt h0 h1]
  have h2 : (256 : Int) ^ k ≤ 256 ^ 7 := by
    rcases (show k = 0 ∨ k = 1 ∨ k = 2 ∨ k = 3 ∨ k = 4 ∨ k = 5 ∨ k = 6 ∨ k = 7 by omega) with rfl | rfl | rfl | rfl | rfl | rfl | rfl | rfl <;> decide
  have : wrap64 n = n := by unfold wrap64; omega
  rw [this]
theorem rdN1_beN (n : Int) (r : List UInt8) (h : 0 ≤ n ∧ n ≤ 255) : rdN 1 (beN 1 n ++ r) 0 = (n, r, 0) := rdN_beN 1 n r (by decide) h.1 (by omega)
theorem rdN2_beN (n : Int) (r : List UInt8) (h : 0 ≤ n ∧ n ≤ 65535) : rdN 2 (beN 2 n ++ r) 0 = (n, r, 0) := rdN_beN 2 n r (by decide) h.1 (by omega)
theorem rdN8_beN (n : Int) (r : List UInt8) (h : -9223372036854775808 ≤ n ∧ n ≤ 9223372036854775807) : rdN 8 (beN 8 n ++ r) 0 = (n, r, 0) := by
  unfold rdN
  rw [tk_app _ r 8 (beN_length 8 n)]
  simp only
  rw [beV_beN]
  have : wrap64 (n % 256 ^ 8) = n := by unfold wrap64; omega
  rw [this]
theorem rdT_textN (s : ByteArray) (r : List UInt8) (h : s.size ≤ 65535) : rdT (textN s ++ r) 0 = (L s, r, 0) := by
  unfold rdT textN
  rw [List.append_assoc, rdN2_beN _ _ (by omega)]
  exact tk_app _ r _ (by rw [Int.toNat_natCast]; exact (size_L s).symm)
theorem rdH_headN (m : Mb) (r : List UInt8) (h1 : 0 ≤ m.fl ∧ m.fl ≤ 255) (h2 : 0 ≤ m.nm ∧ m.nm ≤ 65535) (h3 : 0 ≤ m.ds ∧ m.ds ≤ 65535) : rdH (headN m ++ r) 0 = ((m.fl, m.nm, m.ds), r, 0) := by
  unfold rdH headN linksN
  simp only [List.flatMap_cons, List.flatMap_nil, List.append_nil, List.append_assoc]
  rw [rdN1_beN _ _ h1]
  simp only
  rw [rdN2_beN _ _ h2]
  simp only
  rw [rdN2_beN _ _ h3]
theorem rdK_hdlN (x : Hd) (r : List UInt8) (h1 : 0 ≤ x.fr ∧ x.fr ≤ 65535) (h2 : 0 ≤ x.to ∧ x.to ≤ 65535) (h3 : 0 ≤ x.at_ ∧ x.at_ ≤ 65535) (h4 : 0 ≤ x.cl ∧ x.cl ≤ 65535) : rdK (hdlN x ++ r) 0 = (x, r, 0) := by
  unfold rdK hdlN linksN
  simp only [List.flatMap_cons, List.flatMap_nil, List.append_nil, List.append_assoc]
  rw [rdN2_beN _ _ h1]
  simp only
  rw [rdN2_beN _ _ h2]
  simp only
  rw [rdN2_beN _ _ h3]
  simp only
  rw [rdN2_beN _ _ h4]
theorem rdL_flat {α : Type} (f : List UInt8 → Int → α × List UInt8 × Int) (g : α → List UInt8) (c : α → α) : ∀ (xs : List α) (r : List UInt8), (∀ x ∈ xs, ∀ t, f (g x ++ t) 0 = (c x, t, 0)) → rdL f xs.length (xs.flatMap g ++ r) 0 = (xs.map c, r, 0)
  | [], r, _ => rfl
  | x :: xs, r, h => by
    rw [List.length_cons, rdL_next, List.flatMap_cons, List.append_assoc, h x (by simp)]
    simp only
    rw [rdL_flat f g c xs r (fun y hy => h y (by simp [hy]))]
    rfl
theorem rdS_list {α : Type} (f : List UInt8 → Int → α × List UInt8 × Int) (g : α → List UInt8) (c : α → α) (k : Nat) (hk : 1 ≤ k ∧ k ≤ 2) (xs : List α) (r : List UInt8) (hl : xs.length < 256 ^ k) (h : ∀ x ∈ xs, ∀ t, f (g x ++ t) 0 = (c x, t, 0)) : rdS f k (listN k g xs ++ r) 0 = (xs.map c, r, 0) := by
  unfold rdS listN
  have hl2 : ((xs.length : Nat) : Int) < 256 ^ k := by
    rcases (show k = 1 ∨ k = 2 by omega) with rfl | rfl
    · have : xs.length < 256 := hl
      show _ < (256 : Int); omega
    · have : xs.length < 65536 := hl
      show _ < (65536 : Int); omega
  rw [List.append_assoc, rdN_beN k _ _ (by omega) (by omega) hl2]
  simp only [Int.toNat_natCast]
  exact rdL_flat f g c xs r h
theorem mkB_L' (s : ByteArray) : mkB (L s) = s := mkB_L s
/-- What the reader needs to hold of a method, so that it gives it back. -/
structure MbIn (m : Mb) : Prop where
  fl : 0 ≤ m.fl ∧ m.fl ≤ 255
  nm : 0 ≤ m.nm ∧ m.nm ≤ 65535
  ds : 0 ≤ m.ds ∧ m.ds ≤ 65535
  ms : 0 ≤ m.ms ∧ m.ms ≤ 255
  ml : 0 ≤ m.ml ∧ m.ml ≤ 255
  code : m.code.size ≤ 65535
  hn : m.hs.length ≤ 255
  hs : ∀ x ∈ m.hs, (0 ≤ x.fr ∧ x.fr ≤ 65535) ∧ (0 ≤ x.to ∧ x.to ≤ 65535) ∧ (0 ≤ x.at_ ∧ x.at_ ≤ 65535) ∧ (0 ≤ x.cl ∧ x.cl ≤ 65535)
/-- What of a method is read back. -/
def cleanM (m : Mb) : Mb := if m.fl = 2 then ⟨m.fl, m.nm, m.ds, 0, 0, ⟨#[]⟩, []⟩ else m
theorem rdD_methN (m : Mb) (r : List UInt8) (h : MbIn m) : rdD (methN m ++ r) 0 = (cleanM m, r, 0) := by
  unfold rdD methN cleanM
  simp only [List.append_assoc]
  rw [rdH_headN m _ h.fl h.nm h.ds]
  simp only
  by_cases h2 : m.fl = 2
  · rw [if_pos h2, if_pos h2, if_pos h2]
    rfl
  · rw [if_neg h2, if_neg h2, if_neg h2]
    simp only [List.append_assoc]
    rw [rdN1_beN _ _ h.ms]
    simp only
    rw [rdN1_beN _ _ h.ml]
    simp only
    rw [rdT_textN _ _ h.code]
    simp only
    rw [rdS_list rdK hdlN id 1 (by decide) m.hs r (by have := h.hn; show _ < 256; omega) (fun x hx t => by obtain ⟨q1, q2, q3, q4⟩ := h.hs x hx; exact rdK_hdlN x t q1 q2 q3 q4)]
    simp only [mkB_L', List.map_id]
theorem dec_of_enc (l : List UInt8) (h : validL l = true) (hl : (encL l).length ≤ 65535) : decA (encL l) = l ∧ decE (encL l) = 0 := by
  unfold decA decE
  rw [if_pos hl, if_pos hl, mruns_enc]
  exact ⟨valid_u8 l h, rfl⟩
theorem rdM_text (s : ByteArray) (r : List UInt8) (h : validL (L s) = true) (hl : (encL (L s)).length ≤ 65535) : rdM (textN (mkB (encA (L s))) ++ r) 0 = (L s, r, 0) := by
  have he : encA (L s) = encL (L s) := if_pos ⟨h, hl⟩
  have h1 : L (mkB (encL (L s))) = encL (L s) := rfl
  unfold rdM
  rw [he, rdT_textN _ _ (by rw [size_L, h1]; exact hl), h1]
  obtain ⟨d1, d2⟩ := dec_of_enc _ h hl
  simp only
  rw [d1, d2]
  rfl
/-- What the reader needs to hold of a constant. -/
structure CnIn (c : Cn) : Prop where
  tag : 1 ≤ c.tag ∧ c.tag ≤ 7
  text : c.tag = 1 → validL (L c.text) = true ∧ (encL (L c.text)).length ≤ 65535
  n : c.tag = 2 → -9223372036854775808 ≤ c.n ∧ c.n ≤ 9223372036854775807
  a : 3 ≤ c.tag → 0 ≤ c.a ∧ c.a ≤ 65535
  b : c.tag = 5 ∨ c.tag = 6 → 0 ≤ c.b ∧ c.b ≤ 65535
  c : c.tag = 5 ∨ c.tag = 6 → 0 ≤ c.c ∧ c.c ≤ 65535
/-- What of a constant is read back. -/
def cleanC (c : Cn) : Cn :=
  if c.tag = 1 then ⟨c.tag, c.text, 0, 0, 0, 0⟩ else if c.tag = 2 then ⟨c.tag, ⟨#[]⟩, c.n, 0, 0, 0⟩
  else if c.tag = 5 ∨ c.tag = 6 then ⟨c.tag, ⟨#[]⟩, 0, c.a, c.b, c.c⟩ else ⟨c.tag, ⟨#[]⟩, 0, c.a, 0, 0⟩
theorem rdC_constN (c : Cn) (r : List UInt8) (h : CnIn c) : rdC (constN c ++ r) 0 = (cleanC c, r, 0) := by
  obtain ⟨tag, text, n, a, b, d⟩ := c
  obtain ⟨ht, h1, h2, h3, h4, h5⟩ := h
  simp only at ht h1 h2 h3 h4 h5
  have HN : rdN 1 (constN ⟨tag, text, n, a, b, d⟩ ++ r) 0 = (tag, restN ⟨tag, text, n, a, b, d⟩ ++ r, 0) := by
    unfold constN
    rw [List.append_assoc]
    exact rdN1_beN _ _ (by simp only; omega)
  rw [rdC_of HN]
  unfold cleanC restN
  simp only
  by_cases k1 : tag = 1
  · obtain ⟨v1, v2⟩ := h1 k1
    rw [if_pos k1, if_pos k1, if_pos k1, rdM_text _ _ v1 v2]
    simp only [mkB_L']
  · rw [if_neg k1, if_neg k1, if_neg k1]
    by_cases k2 : tag = 2
    · rw [if_pos k2, if_pos k2, if_pos k2, rdN8_beN _ _ (h2 k2)]
    · rw [if_neg k2, if_neg k2, if_neg k2]
      by_cases k5 : tag = 5 ∨ tag = 6
      · rw [if_neg (by omega), if_pos k5, if_pos k5, if_pos k5]
        unfold linksN
        simp only [List.flatMap_cons, List.flatMap_nil, List.append_nil, List.append_assoc]
        rw [rdN2_beN _ _ (h3 (by omega))]
        simp only
        rw [rdN2_beN _ _ (h4 k5)]
        simp only
        rw [rdN2_beN _ _ (h5 k5)]
      · rw [if_pos (by omega), if_neg k5, if_neg k5]
        unfold linksN
        simp only [List.flatMap_cons, List.flatMap_nil, List.append_nil]
        rw [rdN2_beN _ _ (h3 (by omega))]
/-- What the reader needs to hold of a file. -/
structure FlIn (f : Fl) : Prop where
  np : f.pool.length ≤ 65535
  pool : ∀ c ∈ f.pool, CnIn c
  fl : 0 ≤ f.fl ∧ f.fl ≤ 255
  this : 0 ≤ f.this ∧ f.this ≤ 65535
  super : 0 ≤ f.super ∧ f.super ≤ 65535
  ni : f.ifs.length ≤ 255
  ifs : ∀ i ∈ f.ifs, 0 ≤ i ∧ i ≤ 65535
  nf : f.fds.length ≤ 255
  fds : ∀ m ∈ f.fds, (0 ≤ m.fl ∧ m.fl ≤ 255) ∧ (0 ≤ m.nm ∧ m.nm ≤ 65535) ∧ (0 ≤ m.ds ∧ m.ds ≤ 65535)
  nm : f.mts.length ≤ 255
  mts : ∀ m ∈ f.mts, MbIn m
theorem rdS_of {α β : Type} (f : List UInt8 → Int → α × List UInt8 × Int) (g : β → List UInt8) (c : β → α) (k : Nat) (hk : 1 ≤ k ∧ k ≤ 2) (xs : List β) (r : List UInt8) (hl : xs.length < 256 ^ k) (h : ∀ x ∈ xs, ∀ t, f (g x ++ t) 0 = (c x, t, 0)) : rdS f k (listN k g xs ++ r) 0 = (xs.map c, r, 0) := by
  unfold rdS listN
  have hl2 : ((xs.length : Nat) : Int) < 256 ^ k := by
    rcases (show k = 1 ∨ k = 2 by omega) with rfl | rfl
    · have : xs.length < 256 := hl
      show _ < (256 : Int); omega
    · have : xs.length < 65536 := hl
      show _ < (65536 : Int); omega
  rw [List.append_assoc, rdN_beN k _ _ (by omega) (by omega) hl2]
  simp only [Int.toNat_natCast]
  have key : ∀ (xs : List β), (∀ x ∈ xs, ∀ t, f (g x ++ t) 0 = (c x, t, 0)) → rdL f xs.length (xs.flatMap g ++ r) 0 = (xs.map c, r, 0) := by
    intro xs
    induction xs with
    | nil => intro _; rfl
    | cons x xs ih =>
      intro h
      rw [List.length_cons, rdL_next, List.flatMap_cons, List.append_assoc, h x (by simp)]
      simp only
      rw [ih (fun y hy => h y (by simp [hy]))]
      rfl
  exact key xs h
/-- A head as a member. -/
def headM (x : Int × Int × Int) : Mb := ⟨x.1, x.2.1, x.2.2, 0, 0, ⟨#[]⟩, []⟩
/-- A file, read; its last parts first. -/
def rdF5 (p : List Cn) (fl this super : Int) (is : List Int) (s : List UInt8) (e : Int) : Fl × List UInt8 × Int :=
  let a := rdS rdH 1 s e
  let b := rdS rdD 1 a.2.1 a.2.2
  (⟨p, fl, this, super, is, a.1.map headM, b.1⟩, b.2)
def rdF4 (p : List Cn) (s : List UInt8) (e : Int) : Fl × List UInt8 × Int :=
  let a := rdN 1 s e
  let b := rdN 2 a.2.1 a.2.2
  let c := rdN 2 b.2.1 b.2.2
  let d := rdS (rdN 2) 1 c.2.1 c.2.2
  rdF5 p a.1 b.1 c.1 d.1 d.2.1 d.2.2
def rdF (s : List UInt8) (e : Int) : Fl × List UInt8 × Int :=
  let a := tk 4 s e
  let b := rdS rdC 2 a.2.1 (if a.1 = [67, 82, 85, 88] then a.2.2 else failE a.2.2 4)
  rdF4 b.1 b.2.1 b.2.2
/-- What of a file is read back. -/
def cleanF (f : Fl) : Fl := ⟨f.pool.map cleanC, f.fl, f.this, f.super, f.ifs, f.fds.map fun m => headM (m.fl, m.nm, m.ds), f.mts.map cleanM⟩
theorem links1 (i : Int) (t : List UInt8) (h : 0 ≤ i ∧ i ≤ 65535) : rdN 2 (linksN [i] ++ t) 0 = (i, t, 0) := by
  unfold linksN
  simp only [List.flatMap_cons, List.flatMap_nil, List.append_nil]
  exact rdN2_beN _ _ h
theorem rdF5_back (f : Fl) (h : FlIn f) (p : List Cn) (fl this super : Int) (is : List Int) (r : List UInt8) : rdF5 p fl this super is (listN 1 headN f.fds ++ (listN 1 methN f.mts ++ r)) 0 = (⟨p, fl, this, super, is, f.fds.map fun m => headM (m.fl, m.nm, m.ds), f.mts.map cleanM⟩, r, 0) := by
  unfold rdF5
  rw [rdS_of rdH headN (fun m => (m.fl, m.nm, m.ds)) 1 (by decide) f.fds _ (by have := h.nf; show _ < 256; omega) (fun m hm t => by obtain ⟨q1, q2, q3⟩ := h.fds m hm; exact rdH_headN m t q1 q2 q3)]
  simp only
  rw [rdS_list rdD methN cleanM 1 (by decide) f.mts _ (by have := h.nm; show _ < 256; omega) (fun m hm t => rdD_methN m t (h.mts m hm))]
  simp only [List.map_map]
  rfl
theorem rdF_fileN (f : Fl) (r : List UInt8) (h : FlIn f) : rdF (fileN f ++ r) 0 = (cleanF f, r, 0) := by
  unfold rdF fileN
  simp only [List.append_assoc]
  rw [tk_app _ _ 4 rfl]
  simp only [if_true]
  rw [rdS_list rdC constN cleanC 2 (by decide) f.pool _ (by have := h.np; show _ < 65536; omega) (fun c hc t => rdC_constN c t (h.pool c hc))]
  simp only
  unfold rdF4
  rw [rdN1_beN _ _ h.fl]
  simp only
  have hl : ∀ (t : List UInt8), linksN [f.this, f.super] ++ t = beN 2 f.this ++ (beN 2 f.super ++ t) := by
    intro t
    unfold linksN
    simp only [List.flatMap_cons, List.flatMap_nil, List.append_nil, List.append_assoc]
  rw [hl, rdN2_beN _ _ h.this]
  simp only
  rw [rdN2_beN _ _ h.super]
  simp only
  rw [rdS_list (rdN 2) (fun i => linksN [i]) id 1 (by decide) f.ifs _ (by have := h.ni; show _ < 256; omega) (fun i hi t => links1 i t (h.ifs i hi))]
  simp only [List.map_id]
  rw [rdF5_back f h]
  rfl
theorem u8_ne (r : Nat) : u8 r ≠ [] := by
  unfold u8 u8N bs
  repeat' split
  all_goals simp
theorem u8_length (r : Nat) : 1 ≤ (u8 r).length ∧ (u8 r).length ≤ 4 := by
  unfold u8 u8N bs
  repeat' split
  all_goals simp
theorem u8_cons_ne (r : Nat) (t : List UInt8) : u8 r ++ t ≠ [] := by simp [u8_ne]
theorem steps_u8 (r : Nat) (t : List UInt8) (h : Scal r) : steps (u8 r ++ t) = (r, (u8 r).length) :: steps t := by
  rw [steps_cons _ (u8_cons_ne r t), dec_u8 r t h]
  simp
theorem runes_u8 : ∀ (rs : List Nat), (∀ r ∈ rs, Scal r) → runes (rs.flatMap u8) = rs ∧ validL (rs.flatMap u8) = true
  | [], _ => ⟨rfl, rfl⟩
  | r :: rs, h => by
    have ih := runes_u8 rs (fun x hx => h x (by simp [hx]))
    have hr := h r (by simp)
    constructor
    · show (steps (u8 r ++ rs.flatMap u8)).map Prod.fst = _
      rw [steps_u8 r _ hr]
      show r :: runes _ = _
      rw [ih.1]
    · show (steps (u8 r ++ rs.flatMap u8)).all _ = _
      rw [steps_u8 r _ hr, List.all_cons]
      have hb := bad_u8 r [] hr
      rw [dec_u8 r [] hr] at hb
      rw [hb]
      show (true && validL _) = true
      rw [ih.2]; rfl
theorem tk_inv {n : Nat} {s a r : List UInt8} (h : tk n s 0 = (a, r, 0)) : s = a ++ r ∧ a.length = n := by
  unfold tk at h
  rw [if_pos rfl] at h
  split at h
  · rename_i hl
    simp only [Prod.mk.injEq, and_true] at h
    obtain ⟨rfl, rfl⟩ := h
    exact ⟨(List.take_append_drop n s).symm, by rw [List.length_take]; omega⟩
  · simp at h
theorem beV_inj : ∀ (n : Nat) (a b : List UInt8), a.length = n → b.length = n → beV a = beV b → a = b
  | 0, a, b, ha, hb, _ => by rw [List.length_eq_zero_iff.1 ha, List.length_eq_zero_iff.1 hb]
  | n + 1, a, b, ha, hb, h => by
    rcases List.eq_nil_or_concat a with rfl | ⟨a', x, rfl⟩
    · simp at ha
    rcases List.eq_nil_or_concat b with rfl | ⟨b', y, rfl⟩
    · simp at hb
    simp only [List.concat_eq_append] at ha hb h ⊢
    rw [List.length_append] at ha hb
    simp only [List.length_cons, List.length_nil] at ha hb
    rw [beV_snoc, beV_snoc] at h
    have hx := x.toNat_lt
    have hy := y.toNat_lt
    have h1 : beV a' = beV b' := by omega
    have h2 : x.toNat = y.toNat := by omega
    rw [beV_inj n a' b' (by omega) (by omega) h1, UInt8.toNat_inj.1 h2]
theorem beN_wrap {k : Nat} (hk : k = 1 ∨ k = 2 ∨ k = 8) (a : List UInt8) (ha : a.length = k) : beN k (wrap64 (beV a)) = a := by
  refine beV_inj k _ _ (beN_length k _) ha ?_
  rw [beV_beN]
  have h0 := beV_nonneg a
  have h1 := beV_lt a
  rw [ha] at h1
  unfold wrap64
  rcases hk with rfl | rfl | rfl <;> omega
/-- A part that reads nothing from an error on. -/
def Sticky {α : Type} (f : List UInt8 → Int → α × List UInt8 × Int) : Prop := ∀ s e, e ≠ 0 → (f s e).2 = (s, e)
theorem tk_stick (n : Nat) : Sticky (tk n) := fun s e h => by unfold tk; rw [if_neg h]
theorem rdN_stick (k : Nat) : Sticky (rdN k) := fun s e h => by unfold rdN; rw [tk_stick k s e h]
theorem rdT_stick : Sticky rdT := fun s e h => by unfold rdT; rw [rdN_stick 2 s e h]; exact tk_stick _ s e h
theorem rdM_stick : Sticky rdM := fun s e h => by unfold rdM; simp only; rw [rdT_stick s e h]; unfold failE; rw [if_neg h]
theorem rdH_stick : Sticky rdH := fun s e h => by
  unfold rdH
  simp only [rdN_stick 1 s e h, rdN_stick 2 s e h]
theorem rdK_stick : Sticky rdK := fun s e h => by
  unfold rdK
  simp only [rdN_stick 2 s e h]
theorem rdL_stick {α : Type} (f : List UInt8 → Int → α × List UInt8 × Int) (n : Nat) : Sticky (rdL f n) := fun s e h => by rw [rdL_bad f n s e h]
theorem rdS_stick {α : Type} (f : List UInt8 → Int → α × List UInt8 × Int) (k : Nat) : Sticky (rdS f k) := fun s e h => by
  unfold rdS
  rw [rdN_stick k s e h]
  exact rdL_stick f _ s e h
theorem rdD_stick : Sticky rdD := fun s e h => by
  unfold rdD
  simp only [rdH_stick s e h, rdN_stick 1 s e h, rdT_stick s e h, rdS_stick rdK 1 s e h]
  split <;> rfl
theorem rdN_inv {k : Nat} (hk : k = 1 ∨ k = 2 ∨ k = 8) {s r : List UInt8} {n : Int} (h : rdN k s 0 = (n, r, 0)) : s = beN k n ++ r := by
  obtain ⟨⟨a, b, c⟩, hT⟩ : ∃ T, tk k s 0 = T := ⟨_, rfl⟩
  unfold rdN at h
  rw [hT] at h
  simp only [Prod.mk.injEq] at h
  obtain ⟨rfl, rfl, rfl⟩ := h
  obtain ⟨h1, h2⟩ := tk_inv hT
  rw [beN_wrap hk a h2]
  exact h1
/-- If a part sticks to errors, one ahead of it had none. -/
theorem Sticky.zero {α : Type} {f : List UInt8 → Int → α × List UInt8 × Int} (hf : Sticky f) {s r : List UInt8} {e : Int} {x : α} (h : f s e = (x, r, 0)) : e = 0 := by
  by_cases he : e = 0
  · exact he
  · have := hf s e he
    rw [h] at this
    simp only [Prod.mk.injEq] at this
    exact this.2.symm
theorem rdT_inv {s t r : List UInt8} (h : rdT s 0 = (t, r, 0)) : s = textN (mkB t) ++ r := by
  obtain ⟨⟨n, s1, e1⟩, hN⟩ : ∃ T, rdN 2 s 0 = T := ⟨_, rfl⟩
  have hb := rdN2 s 0
  unfold rdT at h
  rw [hN] at h hb
  simp only at h hb
  have := (tk_stick _).zero h
  subst this
  obtain ⟨h1, h2⟩ := tk_inv h
  rw [rdN_inv (.inr (.inl rfl)) hN, h1, ← List.append_assoc]
  congr 1
  unfold textN
  have h3 : (mkB t).size = t.length := rfl
  have h4 : L (mkB t) = t := rfl
  rw [h3, h4, h2]
  congr 1
  congr 1
  omega
theorem rdH_inv {s r : List UInt8} {a b c : Int} (h : rdH s 0 = ((a, b, c), r, 0)) (m : Mb) (h1 : m.fl = a) (h2 : m.nm = b) (h3 : m.ds = c) : s = headN m ++ r := by
  obtain ⟨⟨n1, s1, e1⟩, k1⟩ : ∃ T, rdN 1 s 0 = T := ⟨_, rfl⟩
  obtain ⟨⟨n2, s2, e2⟩, k2⟩ : ∃ T, rdN 2 s1 e1 = T := ⟨_, rfl⟩
  obtain ⟨⟨n3, s3, e3⟩, k3⟩ : ∃ T, rdN 2 s2 e2 = T := ⟨_, rfl⟩
  unfold rdH at h
  simp only [k1, k2, k3, Prod.mk.injEq] at h
  obtain ⟨⟨rfl, rfl, rfl⟩, rfl, rfl⟩ := h
  have := (rdN_stick 2).zero k3
  subst this
  have := (rdN_stick 2).zero k2
  subst this
  rw [rdN_inv (.inl rfl) k1, rdN_inv (.inr (.inl rfl)) k2, rdN_inv (.inr (.inl rfl)) k3]
  unfold headN linksN
  simp only [List.flatMap_cons, List.flatMap_nil, List.append_nil, List.append_assoc, h1, h2, h3]
theorem rdK_inv {s r : List UInt8} {x : Hd} (h : rdK s 0 = (x, r, 0)) : s = hdlN x ++ r := by
  obtain ⟨⟨n1, s1, e1⟩, k1⟩ : ∃ T, rdN 2 s 0 = T := ⟨_, rfl⟩
  obtain ⟨⟨n2, s2, e2⟩, k2⟩ : ∃ T, rdN 2 s1 e1 = T := ⟨_, rfl⟩
  obtain ⟨⟨n3, s3, e3⟩, k3⟩ : ∃ T, rdN 2 s2 e2 = T := ⟨_, rfl⟩
  obtain ⟨⟨n4, s4, e4⟩, k4⟩ : ∃ T, rdN 2 s3 e3 = T := ⟨_, rfl⟩
  unfold rdK at h
  simp only [k1, k2, k3, k4, Prod.mk.injEq] at h
  obtain ⟨rfl, rfl, rfl⟩ := h
  have := (rdN_stick 2).zero k4
  subst this
  have := (rdN_stick 2).zero k3
  subst this
  have := (rdN_stick 2).zero k2
  subst this
  rw [rdN_inv (.inr (.inl rfl)) k1, rdN_inv (.inr (.inl rfl)) k2, rdN_inv (.inr (.inl rfl)) k3, rdN_inv (.inr (.inl rfl)) k4]
  unfold hdlN linksN
  simp only [List.flatMap_cons, List.flatMap_nil, List.append_nil, List.append_assoc]
theorem dec_enc' (l : List UInt8) (rs : List Nat) (h : mruns l = some rs) : encL (rs.flatMap u8) = l ∧ validL (rs.flatMap u8) = true := by
  obtain ⟨e, hs⟩ := mruns_eq l rs h
  obtain ⟨h1, h2⟩ := runes_u8 rs hs
  refine ⟨?_, h2⟩
  unfold encL
  rw [h1]
  exact e.symm
theorem enc_of_dec {t : List UInt8} (h : decE t = 0) : encA (decA t) = t ∧ (decA t).length ≤ 4 * t.length := by
  unfold decE at h
  split at h
  · rename_i hl
    split at h
    · rename_i hm
      obtain ⟨rs, hrs⟩ := Option.isSome_iff_exists.1 hm
      obtain ⟨h1, h2⟩ := dec_enc' t rs hrs
      have hd : decA t = rs.flatMap u8 := by unfold decA; rw [if_pos hl, hrs]; rfl
      rw [hd]
      refine ⟨?_, ?_⟩
      · unfold encA
        rw [if_pos ⟨h2, by rw [h1]; exact hl⟩, h1]
      · have hm : t = rs.flatMap mb := (mruns_eq t rs hrs).1
        rw [hm]
        clear hm h1 h2 hd hrs
        induction rs with
        | nil => simp
        | cons r rs ih =>
          have := (u8_length r).2
          have h3 := (mb_length r).1
          simp only [List.flatMap_cons, List.length_append]
          omega
    · simp at h
  · simp at h
theorem rdM_inv {s t r : List UInt8} (h : rdM s 0 = (t, r, 0)) : s = textN (mkB (encA t)) ++ r ∧ t.length ≤ 300000 := by
  obtain ⟨⟨a, s1, e1⟩, hT⟩ : ∃ T, rdT s 0 = T := ⟨_, rfl⟩
  have hlen := rdT_len s 0
  unfold rdM at h
  rw [hT] at h hlen
  simp only [Prod.mk.injEq] at h hlen
  obtain ⟨rfl, rfl, he⟩ := h
  have : e1 = 0 := by
    unfold failE at he
    split at he
    · assumption
    · exact he
  subst this
  have hd : decE a = 0 := he
  obtain ⟨h1, h2⟩ := enc_of_dec hd
  rw [h1]
  exact ⟨rdT_inv hT, by omega⟩
theorem rdC_stick : Sticky rdC := fun s e h => by
  obtain ⟨⟨a1, a2, a3⟩, hT⟩ : ∃ T, rdN 1 s e = T := ⟨_, rfl⟩
  have hN := rdN_stick 1 s e h
  rw [hT] at hN
  simp only [Prod.mk.injEq] at hN
  obtain ⟨rfl, rfl⟩ := hN
  rw [rdC_of hT]
  simp only [rdN_stick 2 a2 a3 h]
  repeat' split
  · exact rdM_stick a2 a3 h
  · exact rdN_stick 8 a2 a3 h
  · rfl
  · rfl
  · simp only [failE, if_neg h]
theorem rdC_inv {s r : List UInt8} {c : Cn} (h : rdC s 0 = (c, r, 0)) : s = constN c ++ r ∧ c.text.size ≤ 300000 := by
  obtain ⟨⟨a1, a2, a3⟩, hT⟩ : ∃ T, rdN 1 s 0 = T := ⟨_, rfl⟩
  rw [rdC_of hT] at h
  have key : ∀ (c : Cn), a3 = 0 → c.tag = a1 → a2 = restN c ++ r → s = constN c ++ r := by
    intro c h0 ht hr
    subst h0
    rw [rdN_inv (.inl rfl) hT, hr]
    unfold constN
    rw [ht, List.append_assoc]
  split at h
  · rename_i k1
    obtain ⟨⟨m1, m2, m3⟩, hM⟩ : ∃ T, rdM a2 a3 = T := ⟨_, rfl⟩
    rw [hM] at h
    simp only [Prod.mk.injEq] at h
    obtain ⟨rfl, rfl, rfl⟩ := h
    have h0 := rdM_stick.zero hM
    subst h0
    obtain ⟨h1, h2⟩ := rdM_inv hM
    refine ⟨key _ rfl rfl ?_, h2⟩
    unfold restN
    rw [if_pos (show a1 = 1 from k1)]
    exact h1
  · rename_i k1
    split at h
    · rename_i k2
      obtain ⟨⟨m1, m2, m3⟩, hM⟩ : ∃ T, rdN 8 a2 a3 = T := ⟨_, rfl⟩
      rw [hM] at h
      simp only [Prod.mk.injEq] at h
      obtain ⟨rfl, rfl, rfl⟩ := h
      have h0 := (rdN_stick 8).zero hM
      subst h0
      refine ⟨key _ rfl rfl ?_, Nat.zero_le _⟩
      unfold restN
      rw [if_neg (show ¬ a1 = 1 from k1), if_pos (show a1 = 2 from k2)]
      exact rdN_inv (.inr (.inr rfl)) hM
    · rename_i k2
      split at h
      · rename_i k3
        obtain ⟨⟨m1, m2, m3⟩, hM⟩ : ∃ T, rdN 2 a2 a3 = T := ⟨_, rfl⟩
        rw [hM] at h
        simp only [Prod.mk.injEq] at h
        obtain ⟨rfl, rfl, rfl⟩ := h
        have h0 := (rdN_stick 2).zero hM
        subst h0
        refine ⟨key _ rfl rfl ?_, Nat.zero_le _⟩
        unfold restN
        rw [if_neg (show ¬ a1 = 1 from k1), if_neg (show ¬ a1 = 2 from k2), if_neg (show ¬ (a1 = 5 ∨ a1 = 6) by omega), rdN_inv (.inr (.inl rfl)) hM]
        unfold linksN
        simp only [List.flatMap_cons, List.flatMap_nil, List.append_nil]
      · rename_i k3
        split at h
        · rename_i k5
          obtain ⟨⟨m1, m2, m3⟩, hM⟩ : ∃ T, rdN 2 a2 a3 = T := ⟨_, rfl⟩
          obtain ⟨⟨n1, n2, n3⟩, hN⟩ : ∃ T, rdN 2 m2 m3 = T := ⟨_, rfl⟩
          obtain ⟨⟨o1, o2, o3⟩, hO⟩ : ∃ T, rdN 2 n2 n3 = T := ⟨_, rfl⟩
          simp only [hM, hN, hO, Prod.mk.injEq] at h
          obtain ⟨rfl, rfl, rfl⟩ := h
          have h0 := (rdN_stick 2).zero hO
          subst h0
          have h0 := (rdN_stick 2).zero hN
          subst h0
          have h0 := (rdN_stick 2).zero hM
          subst h0
          refine ⟨key _ rfl rfl ?_, Nat.zero_le _⟩
          unfold restN
          rw [if_neg (show ¬ a1 = 1 from k1), if_neg (show ¬ a1 = 2 from k2), if_pos (show a1 = 5 ∨ a1 = 6 from k5), rdN_inv (.inr (.inl rfl)) hM, rdN_inv (.inr (.inl rfl)) hN, rdN_inv (.inr (.inl rfl)) hO]
          unfold linksN
          simp only [List.flatMap_cons, List.flatMap_nil, List.append_nil, List.append_assoc]
        · exfalso
          simp only [Prod.mk.injEq] at h
          have := h.2.2
          unfold failE at this
          split at this
          · simp at this
          · rename_i h3
            exact h3 this
theorem rdL_inv {α : Type} {f : List UInt8 → Int → α × List UInt8 × Int} {g : α → List UInt8} {P : α → Prop} (hf : Sticky f) (hi : ∀ s x r, f s 0 = (x, r, 0) → s = g x ++ r ∧ P x) :
    ∀ (n : Nat) (s : List UInt8) (l : List α) (r : List UInt8), rdL f n s 0 = (l, r, 0) → s = l.flatMap g ++ r ∧ l.length = n ∧ ∀ x ∈ l, P x
  | 0, s, l, r, h => by
    simp only [rdL, Prod.mk.injEq] at h
    obtain ⟨rfl, rfl, _⟩ := h
    exact ⟨rfl, rfl, fun x hx => by simp at hx⟩
  | n + 1, s, l, r, h => by
    rw [rdL_next] at h
    obtain ⟨⟨x, s1, e1⟩, hX⟩ : ∃ T, f s 0 = T := ⟨_, rfl⟩
    obtain ⟨⟨l1, s2, e2⟩, hL⟩ : ∃ T, rdL f n s1 e1 = T := ⟨_, rfl⟩
    simp only [hX, hL, Prod.mk.injEq] at h
    obtain ⟨rfl, rfl, rfl⟩ := h
    have h0 := (rdL_stick f n).zero hL
    subst h0
    obtain ⟨h1, h2⟩ := hi _ _ _ hX
    obtain ⟨h3, h4, h5⟩ := rdL_inv hf hi n s1 l1 s2 hL
    refine ⟨?_, by rw [List.length_cons, h4], fun y hy => ?_⟩
    · rw [h1, h3, List.flatMap_cons, List.append_assoc]
    · rcases List.mem_cons.1 hy with rfl | hy
      · exact h2
      · exact h5 y hy
theorem rdS_inv {α : Type} {f : List UInt8 → Int → α × List UInt8 × Int} {g : α → List UInt8} {P : α → Prop} (hf : Sticky f) (hi : ∀ s x r, f s 0 = (x, r, 0) → s = g x ++ r ∧ P x) {k : Nat} (hk : k = 1 ∨ k = 2) {s r : List UInt8} {l : List α}
    (h : rdS f k s 0 = (l, r, 0)) : s = listN k g l ++ r ∧ ∀ x ∈ l, P x := by
  obtain ⟨⟨n, s1, e1⟩, hN⟩ : ∃ T, rdN k s 0 = T := ⟨_, rfl⟩
  have hb : 0 ≤ n := by
    rcases hk with rfl | rfl
    · have := rdN1 s 0; rw [hN] at this; exact this.1
    · have := rdN2 s 0; rw [hN] at this; exact this.1
  unfold rdS at h
  rw [hN] at h
  simp only at h
  have h0 := (rdL_stick f _).zero h
  subst h0
  obtain ⟨h1, h2, h3⟩ := rdL_inv hf hi _ _ _ _ h
  refine ⟨?_, h3⟩
  rw [rdN_inv (by omega) hN, h1]
  unfold listN
  rw [List.append_assoc]
  congr 2
  omega
theorem rdD_inv {s r : List UInt8} {m : Mb} (h : rdD s 0 = (m, r, 0)) : s = methN m ++ r := by
  obtain ⟨⟨⟨a1, a2, a3⟩, s1, e1⟩, hH⟩ : ∃ T, rdH s 0 = T := ⟨_, rfl⟩
  obtain ⟨⟨b1, s2, e2⟩, hB⟩ : ∃ T, rdN 1 s1 e1 = T := ⟨_, rfl⟩
  obtain ⟨⟨c1, s3, e3⟩, hC⟩ : ∃ T, rdN 1 s2 e2 = T := ⟨_, rfl⟩
  obtain ⟨⟨d1, s4, e4⟩, hD⟩ : ∃ T, rdT s3 e3 = T := ⟨_, rfl⟩
  obtain ⟨⟨h1, s5, e5⟩, hS⟩ : ∃ T, rdS rdK 1 s4 e4 = T := ⟨_, rfl⟩
  unfold rdD at h
  simp only [hH, hB, hC, hD, hS] at h
  split at h
  · rename_i k2
    simp only [Prod.mk.injEq] at h
    obtain ⟨rfl, rfl, rfl⟩ := h
    unfold methN
    rw [if_pos (show a1 = 2 from k2), List.append_nil]
    exact rdH_inv hH _ rfl rfl rfl
  · rename_i k2
    simp only [Prod.mk.injEq] at h
    obtain ⟨rfl, rfl, rfl⟩ := h
    have h0 := (rdS_stick rdK 1).zero hS
    subst h0
    have h0 := rdT_stick.zero hD
    subst h0
    have h0 := (rdN_stick 1).zero hC
    subst h0
    have h0 := (rdN_stick 1).zero hB
    subst h0
    obtain ⟨q1, _⟩ := rdS_inv (P := fun _ => True) rdK_stick (fun s x r h => ⟨rdK_inv h, trivial⟩) (.inl rfl) hS
    unfold methN
    rw [if_neg (show ¬ a1 = 2 from k2), rdH_inv hH ⟨a1, a2, a3, b1, c1, mkB d1, h1⟩ rfl rfl rfl, rdN_inv (.inl rfl) hB, rdN_inv (.inl rfl) hC, rdT_inv hD, q1]
    simp only [List.append_assoc]
theorem rdF5_stick (p : List Cn) (fl this super : Int) (is : List Int) : Sticky (rdF5 p fl this super is) := fun s e h => by
  unfold rdF5
  simp only [rdS_stick rdH 1 s e h, rdS_stick rdD 1 s e h]
theorem rdF4_stick (p : List Cn) : Sticky (rdF4 p) := fun s e h => by
  unfold rdF4
  simp only [rdN_stick 1 s e h, rdN_stick 2 s e h, rdS_stick (rdN 2) 1 s e h]
  exact rdF5_stick _ _ _ _ _ s e h
theorem rdF_inv {s r : List UInt8} {f : Fl} (h : rdF s 0 = (f, r, 0)) : s = fileN f ++ r ∧ ∀ c ∈ f.pool, c.text.size ≤ 300000 := by
  obtain ⟨⟨a1, s1, e1⟩, hA⟩ : ∃ T, tk 4 s 0 = T := ⟨_, rfl⟩
  obtain ⟨⟨p, s2, e2⟩, hP⟩ : ∃ T, rdS rdC 2 s1 (if a1 = [67, 82, 85, 88] then e1 else failE e1 4) = T := ⟨_, rfl⟩
  obtain ⟨⟨fl, s3, e3⟩, h3⟩ : ∃ T, rdN 1 s2 e2 = T := ⟨_, rfl⟩
  obtain ⟨⟨this, s4, e4⟩, h4⟩ : ∃ T, rdN 2 s3 e3 = T := ⟨_, rfl⟩
  obtain ⟨⟨super, s5, e5⟩, h5⟩ : ∃ T, rdN 2 s4 e4 = T := ⟨_, rfl⟩
  obtain ⟨⟨is, s6, e6⟩, h6⟩ : ∃ T, rdS (rdN 2) 1 s5 e5 = T := ⟨_, rfl⟩
  obtain ⟨⟨fd, s7, e7⟩, h7⟩ : ∃ T, rdS rdH 1 s6 e6 = T := ⟨_, rfl⟩
  obtain ⟨⟨mt, s8, e8⟩, h8⟩ : ∃ T, rdS rdD 1 s7 e7 = T := ⟨_, rfl⟩
  unfold rdF rdF4 rdF5 at h
  simp only [hA, hP, h3, h4, h5, h6, h7, h8, Prod.mk.injEq] at h
  obtain ⟨rfl, rfl, rfl⟩ := h
  have h0 := (rdS_stick rdD 1).zero h8
  subst h0
  have h0 := (rdS_stick rdH 1).zero h7
  subst h0
  have h0 := (rdS_stick (rdN 2) 1).zero h6
  subst h0
  have h0 := (rdN_stick 2).zero h5
  subst h0
  have h0 := (rdN_stick 2).zero h4
  subst h0
  have h0 := (rdN_stick 1).zero h3
  subst h0
  have h0 := (rdS_stick rdC 2).zero hP
  have ha : a1 = [67, 82, 85, 88] := by
    by_cases ha : a1 = [67, 82, 85, 88]
    · exact ha
    · rw [if_neg ha] at h0
      unfold failE at h0
      split at h0
      · simp at h0
      · rename_i hx
        exact absurd h0 hx
  subst ha
  rw [if_pos rfl] at h0 hP
  subst h0
  obtain ⟨q1, q2⟩ := rdS_inv (g := constN) (P := fun c => c.text.size ≤ 300000) rdC_stick (fun s x r h => rdC_inv h) (.inr rfl) hP
  obtain ⟨q3, _⟩ := rdS_inv (g := fun i => linksN [i]) (P := fun _ => True) (rdN_stick 2) (fun s x r h => ⟨by rw [rdN_inv (.inr (.inl rfl)) h]; unfold linksN; simp only [List.flatMap_cons, List.flatMap_nil, List.append_nil], trivial⟩) (.inl rfl) h6
  obtain ⟨q4, _⟩ := rdS_inv (g := fun x => headN (headM x)) (P := fun _ => True) rdH_stick (fun s x r h => ⟨rdH_inv h _ rfl rfl rfl, trivial⟩) (.inl rfl) h7
  obtain ⟨q5, _⟩ := rdS_inv (g := methN) (P := fun _ => True) rdD_stick (fun s x r h => ⟨rdD_inv h, trivial⟩) (.inl rfl) h8
  refine ⟨?_, q2⟩
  have hfd : listN 1 (fun x => headN (headM x)) fd = listN 1 headN (fd.map headM) := by
    unfold listN
    rw [List.length_map, List.flatMap_map]
  have hl : linksN [this, super] = beN 2 this ++ beN 2 super := by
    unfold linksN
    simp only [List.flatMap_cons, List.flatMap_nil, List.append_nil]
  unfold fileN
  rw [(tk_inv hA).1, q1, rdN_inv (.inl rfl) h3, rdN_inv (.inr (.inl rfl)) h4, rdN_inv (.inr (.inl rfl)) h5, q3, q4, q5, hfd, hl]
  simp only [List.append_assoc]
theorem pre_split {t u A B : List UInt8} (h : t ++ u = A ++ B) (hu : u ≠ []) : (∃ v, t ++ v = A ∧ v ≠ []) ∨ ∃ t', t = A ++ t' ∧ t' ++ u = B := by
  rcases List.append_eq_append_iff.1 h with ⟨a', h1, h2⟩ | ⟨c', h1, h2⟩
  · by_cases ha : a' = []
    · subst ha
      rw [List.append_nil] at h1
      exact .inr ⟨[], by rw [h1, List.append_nil], by rw [List.nil_append, h2, List.nil_append]⟩
    · exact .inl ⟨a', h1.symm, ha⟩
  · exact .inr ⟨c', h1, h2.symm⟩
/-- A beginning of A that is not all of it is too short. -/
def Cut {α : Type} (f : List UInt8 → Int → α × List UInt8 × Int) (A : List UInt8) : Prop := ∀ t u, t ++ u = A → u ≠ [] → (f t 0).2.2 = 5
theorem Sticky.five {α : Type} {f : List UInt8 → Int → α × List UInt8 × Int} (hf : Sticky f) {s : List UInt8} {e : Int} (h : e = 5) : (f s e).2.2 = 5 := by
  subst h
  rw [hf s 5 (by decide)]
theorem tk_cut {n : Nat} {A : List UInt8} (h : A.length = n) : Cut (tk n) A := fun t u e hu => by
  have : t.length < n := by
    rw [← h, ← e, List.length_append]
    have := List.length_pos_iff.2 hu
    omega
  unfold tk
  rw [if_pos rfl, if_neg (by omega)]
theorem rdN_cut (k : Nat) (n : Int) : Cut (rdN k) (beN k n) := fun t u e hu => by
  unfold rdN
  exact tk_cut (beN_length k n) t u e hu
theorem rdT_cut {s : ByteArray} (hs : s.size ≤ 65535) : Cut rdT (textN s) := fun t u e hu => by
  unfold textN at e
  rcases pre_split e hu with ⟨v, h1, h2⟩ | ⟨t', rfl, h1⟩
  · have := rdN_cut 2 _ t v h1 h2
    unfold rdT
    exact (tk_stick _).five this
  · unfold rdT
    rw [rdN2_beN _ _ (by omega)]
    exact tk_cut (by rw [Int.toNat_natCast]; exact (size_L s).symm) t' u h1 hu
theorem rdM_cut {s : ByteArray} (hs : s.size ≤ 65535) : Cut rdM (textN s) := fun t u e hu => by
  unfold rdM
  simp only
  rw [rdT_cut hs t u e hu]
  rfl
theorem links_cons (i : Int) (l : List Int) : linksN (i :: l) = beN 2 i ++ linksN l := by unfold linksN; rw [List.flatMap_cons]
theorem links_nil : linksN [] = [] := rfl
theorem rdH_cut (m : Mb) (h1 : 0 ≤ m.fl ∧ m.fl ≤ 255) (h2 : 0 ≤ m.nm ∧ m.nm ≤ 65535) (h3 : 0 ≤ m.ds ∧ m.ds ≤ 65535) : Cut rdH (headN m) := fun t u e hu => by
  unfold headN at e
  rw [links_cons, links_cons, links_nil, List.append_nil] at e
  unfold rdH
  simp only
  rcases pre_split e hu with ⟨v, k1, k2⟩ | ⟨t', rfl, kk⟩
  · exact (rdN_stick 2).five ((rdN_stick 2).five (rdN_cut 1 _ t v k1 k2))
  clear e; have e := kk; clear kk
  rw [rdN1_beN _ _ h1]
  simp only
  rcases pre_split e hu with ⟨v, k1, k2⟩ | ⟨t', rfl, kk⟩
  · exact (rdN_stick 2).five (rdN_cut 2 _ _ v k1 k2)
  clear e; have e := kk; clear kk
  rw [rdN2_beN _ _ h2]
  simp only
  exact rdN_cut 2 _ _ u e hu
theorem rdK_cut (x : Hd) (h1 : 0 ≤ x.fr ∧ x.fr ≤ 65535) (h2 : 0 ≤ x.to ∧ x.to ≤ 65535) (h3 : 0 ≤ x.at_ ∧ x.at_ ≤ 65535) (h4 : 0 ≤ x.cl ∧ x.cl ≤ 65535) : Cut rdK (hdlN x) := fun t u e hu => by
  unfold hdlN at e
  rw [links_cons, links_cons, links_cons, links_cons, links_nil, List.append_nil] at e
  unfold rdK
  simp only
  rcases pre_split e hu with ⟨v, k1, k2⟩ | ⟨t', rfl, kk⟩
  · exact (rdN_stick 2).five ((rdN_stick 2).five ((rdN_stick 2).five (rdN_cut 2 _ t v k1 k2)))
  clear e; have e := kk; clear kk
  rw [rdN2_beN _ _ h1]
  simp only
  rcases pre_split e hu with ⟨v, k1, k2⟩ | ⟨t', rfl, kk⟩
  · exact (rdN_stick 2).five ((rdN_stick 2).five (rdN_cut 2 _ _ v k1 k2))
  clear e; have e := kk; clear kk
  rw [rdN2_beN _ _ h2]
  simp only
  rcases pre_split e hu with ⟨v, k1, k2⟩ | ⟨t', rfl, kk⟩
  · exact (rdN_stick 2).five (rdN_cut 2 _ _ v k1 k2)
  clear e; have e := kk; clear kk
  rw [rdN2_beN _ _ h3]
  simp only
  exact rdN_cut 2 _ _ u e hu
theorem rdL_cut {α β : Type} (f : List UInt8 → Int → α × List UInt8 × Int) (g : β → List UInt8) (c : β → α) : ∀ (xs : List β), (∀ x ∈ xs, (∀ t, f (g x ++ t) 0 = (c x, t, 0)) ∧ Cut f (g x)) → Cut (rdL f xs.length) (xs.flatMap g)
  | [], _, t, u, e, hu => by
    rw [List.flatMap_nil] at e
    exact absurd (List.append_eq_nil_iff.1 e).2 hu
  | x :: xs, h, t, u, e, hu => by
    rw [List.flatMap_cons] at e
    rw [List.length_cons, rdL_next]
    obtain ⟨hx1, hx2⟩ := h x (by simp)
    rcases pre_split e hu with ⟨v, k1, k2⟩ | ⟨t', rfl, kk⟩
    · exact (rdL_stick f _).five (hx2 t v k1 k2)
    · clear e; have e := kk; clear kk
      rw [hx1]
      exact rdL_cut f g c xs (fun y hy => h y (by simp [hy])) t' u e hu
theorem rdS_cut {α β : Type} (f : List UInt8 → Int → α × List UInt8 × Int) (g : β → List UInt8) (c : β → α) (k : Nat) (hk : 1 ≤ k ∧ k ≤ 2) (xs : List β) (hl : xs.length < 256 ^ k) (h : ∀ x ∈ xs, (∀ t, f (g x ++ t) 0 = (c x, t, 0)) ∧ Cut f (g x)) : Cut (rdS f k) (listN k g xs) := fun t u e hu => by
  unfold listN at e
  unfold rdS
  have hl2 : ((xs.length : Nat) : Int) < 256 ^ k := by
    rcases (show k = 1 ∨ k = 2 by omega) with rfl | rfl
    · have : xs.length < 256 := hl
      show _ < (256 : Int); omega
    · have : xs.length < 65536 := hl
      show _ < (65536 : Int); omega
  rcases pre_split e hu with ⟨v, k1, k2⟩ | ⟨t', rfl, kk⟩
  · exact (rdL_stick f _).five (rdN_cut k _ t v k1 k2)
  · clear e; have e := kk; clear kk
    rw [rdN_beN k _ _ (by omega) (by omega) hl2]
    simp only [Int.toNat_natCast]
    exact rdL_cut f g c xs h t' u e hu
theorem rdD_cut (m : Mb) (h : MbIn m) : Cut rdD (methN m) := fun t u e hu => by
  unfold methN at e
  unfold rdD
  simp only
  rcases pre_split e hu with ⟨v, k1, k2⟩ | ⟨t', rfl, kk⟩
  · have h5 := rdH_cut m h.fl h.nm h.ds t v k1 k2
    split
    · exact h5
    · exact (rdS_stick rdK 1).five (rdT_stick.five ((rdN_stick 1).five ((rdN_stick 1).five h5)))
  clear e; have e := kk; clear kk
  rw [rdH_headN m _ h.fl h.nm h.ds]
  simp only
  by_cases h2 : m.fl = 2
  · rw [if_pos h2] at e
    exact absurd (List.append_eq_nil_iff.1 e).2 hu
  rw [if_neg h2] at e
  rw [if_neg h2]
  rcases pre_split e hu with ⟨v, k1, k2⟩ | ⟨t', rfl, kk⟩
  · exact (rdS_stick rdK 1).five (rdT_stick.five ((rdN_stick 1).five (rdN_cut 1 _ _ v k1 k2)))
  clear e; have e := kk; clear kk
  rw [rdN1_beN _ _ h.ms]
  simp only
  rcases pre_split e hu with ⟨v, k1, k2⟩ | ⟨t', rfl, kk⟩
  · exact (rdS_stick rdK 1).five (rdT_stick.five (rdN_cut 1 _ _ v k1 k2))
  clear e; have e := kk; clear kk
  rw [rdN1_beN _ _ h.ml]
  simp only
  rcases pre_split e hu with ⟨v, k1, k2⟩ | ⟨t', rfl, kk⟩
  · exact (rdS_stick rdK 1).five (rdT_cut h.code _ v k1 k2)
  clear e; have e := kk; clear kk
  rw [rdT_textN _ _ h.code]
  simp only
  exact rdS_cut rdK hdlN id 1 (by decide) m.hs (by have := h.hn; show _ < 256; omega) (fun x hx => by obtain ⟨q1, q2, q3, q4⟩ := h.hs x hx; exact ⟨fun t => rdK_hdlN x t q1 q2 q3 q4, rdK_cut x q1 q2 q3 q4⟩) t' u e hu
theorem rdC_cut (c : Cn) (h : CnIn c) : Cut rdC (constN c) := fun t u e hu => by
  obtain ⟨tag, text, n, a, b, d⟩ := c
  obtain ⟨ht, h1, h2, h3, h4, h5⟩ := h
  simp only at ht h1 h2 h3 h4 h5
  unfold constN at e
  rcases pre_split e hu with ⟨v, k1, k2⟩ | ⟨t', rfl, kk⟩
  · have h6 := rdN_cut 1 _ t v k1 k2
    obtain ⟨⟨a1, a2, a3⟩, hT⟩ : ∃ T, rdN 1 t 0 = T := ⟨_, rfl⟩
    rw [hT] at h6
    simp only at h6
    subst h6
    rw [rdC_of hT]
    repeat' split
    · exact rdM_stick.five rfl
    · exact (rdN_stick 8).five rfl
    · exact (rdN_stick 2).five rfl
    · exact (rdN_stick 2).five ((rdN_stick 2).five ((rdN_stick 2).five rfl))
    · rfl
  clear e; have e := kk; clear kk
  rw [rdC_of (rdN1_beN tag t' (by omega))]
  unfold restN at e
  simp only at e
  by_cases k1 : tag = 1
  · obtain ⟨v1, v2⟩ := h1 k1
    rw [if_pos k1] at e ⊢
    have he : encA (L text) = encL (L text) := if_pos ⟨v1, v2⟩
    rw [he] at e
    exact rdM_cut (by rw [size_L]; exact v2) _ u e hu
  rw [if_neg k1] at e ⊢
  by_cases k2 : tag = 2
  · rw [if_pos k2] at e ⊢
    exact rdN_cut 8 _ _ u e hu
  rw [if_neg k2] at e ⊢
  by_cases k5 : tag = 5 ∨ tag = 6
  · rw [if_pos k5, links_cons, links_cons, links_cons, links_nil, List.append_nil] at e
    rw [if_neg (by omega), if_pos k5]
    rcases pre_split e hu with ⟨v, k1, k2⟩ | ⟨t', rfl, kk⟩
    · exact (rdN_stick 2).five ((rdN_stick 2).five (rdN_cut 2 _ _ v k1 k2))
    clear e; have e := kk; clear kk
    rw [rdN2_beN _ _ (h3 (by omega))]
    simp only
    rcases pre_split e hu with ⟨v, k1, k2⟩ | ⟨t', rfl, kk⟩
    · exact (rdN_stick 2).five (rdN_cut 2 _ _ v k1 k2)
    clear e; have e := kk; clear kk
    rw [rdN2_beN _ _ (h4 k5)]
    simp only
    exact rdN_cut 2 _ _ u e hu
  · rw [if_neg k5, links_cons, links_nil, List.append_nil] at e
    rw [if_pos (by omega)]
    exact rdN_cut 2 _ _ u e hu
theorem rdF5_cut (f : Fl) (h : FlIn f) (p : List Cn) (fl this super : Int) (is : List Int) : Cut (rdF5 p fl this super is) (listN 1 headN f.fds ++ listN 1 methN f.mts) := fun t u e hu => by
  unfold rdF5
  simp only
  rcases pre_split e hu with ⟨v, k1, k2⟩ | ⟨t', rfl, kk⟩
  · exact (rdS_stick rdD 1).five (rdS_cut rdH headN (fun m => (m.fl, m.nm, m.ds)) 1 (by decide) f.fds (by have := h.nf; show _ < 256; omega) (fun m hm => by obtain ⟨q1, q2, q3⟩ := h.fds m hm; exact ⟨fun t => rdH_headN m t q1 q2 q3, rdH_cut m q1 q2 q3⟩) t v k1 k2)
  clear e; have e := kk; clear kk
  rw [rdS_of rdH headN (fun m => (m.fl, m.nm, m.ds)) 1 (by decide) f.fds _ (by have := h.nf; show _ < 256; omega) (fun m hm t => by obtain ⟨q1, q2, q3⟩ := h.fds m hm; exact rdH_headN m t q1 q2 q3)]
  simp only
  exact rdS_cut rdD methN cleanM 1 (by decide) f.mts (by have := h.nm; show _ < 256; omega) (fun m hm => ⟨fun t => rdD_methN m t (h.mts m hm), rdD_cut m (h.mts m hm)⟩) t' u e hu
theorem rdF4_cut (f : Fl) (h : FlIn f) (p : List Cn) : Cut (rdF4 p) (beN 1 f.fl ++ (beN 2 f.this ++ (beN 2 f.super ++ (listN 1 (fun i => linksN [i]) f.ifs ++ (listN 1 headN f.fds ++ listN 1 methN f.mts))))) := fun t u e hu => by
  unfold rdF4
  simp only
  rcases pre_split e hu with ⟨v, k1, k2⟩ | ⟨t', rfl, kk⟩
  · exact (rdF5_stick _ _ _ _ _).five ((rdS_stick (rdN 2) 1).five ((rdN_stick 2).five ((rdN_stick 2).five (rdN_cut 1 _ _ v k1 k2))))
  clear e; have e := kk; clear kk
  rw [rdN1_beN _ _ h.fl]
  simp only
  rcases pre_split e hu with ⟨v, k1, k2⟩ | ⟨t', rfl, kk⟩
  · exact (rdF5_stick _ _ _ _ _).five ((rdS_stick (rdN 2) 1).five ((rdN_stick 2).five (rdN_cut 2 _ _ v k1 k2)))
  clear e; have e := kk; clear kk
  rw [rdN2_beN _ _ h.this]
  simp only
  rcases pre_split e hu with ⟨v, k1, k2⟩ | ⟨t', rfl, kk⟩
  · exact (rdF5_stick _ _ _ _ _).five ((rdS_stick (rdN 2) 1).five (rdN_cut 2 _ _ v k1 k2))
  clear e; have e := kk; clear kk
  rw [rdN2_beN _ _ h.super]
  simp only
  have hcut : ∀ i ∈ f.ifs, (∀ t, rdN 2 (linksN [i] ++ t) 0 = (id i, t, 0)) ∧ Cut (rdN 2) (linksN [i]) := fun i hi => ⟨fun t => links1 i t (h.ifs i hi), by rw [links_cons, links_nil, List.append_nil]; exact rdN_cut 2 i⟩
  rcases pre_split e hu with ⟨v, k1, k2⟩ | ⟨t', rfl, kk⟩
  · exact (rdF5_stick _ _ _ _ _).five (rdS_cut (rdN 2) (fun i => linksN [i]) id 1 (by decide) f.ifs (by have := h.ni; show _ < 256; omega) hcut _ v k1 k2)
  clear e; have e := kk; clear kk
  rw [rdS_list (rdN 2) (fun i => linksN [i]) id 1 (by decide) f.ifs _ (by have := h.ni; show _ < 256; omega) (fun i hi t => links1 i t (h.ifs i hi))]
  exact rdF5_cut f h _ _ _ _ _ t' u e hu
theorem rdF_cut (f : Fl) (h : FlIn f) : Cut rdF (fileN f) := fun t u e hu => by
  unfold fileN at e
  rw [links_cons, links_cons, links_nil, List.append_nil, List.append_assoc (beN 2 f.this)] at e
  unfold rdF
  simp only
  rcases pre_split e hu with ⟨v, k1, k2⟩ | ⟨t', rfl, kk⟩
  · have h5 := tk_cut (n := 4) (A := [67, 82, 85, 88]) rfl t v k1 k2
    refine (rdF4_stick _).five ((rdS_stick rdC 2).five ?_)
    rw [h5]
    split <;> rfl
  clear e; have e := kk; clear kk
  rw [tk_app _ _ 4 rfl]
  simp only [if_true]
  have hcut : ∀ c ∈ f.pool, (∀ t, rdC (constN c ++ t) 0 = (cleanC c, t, 0)) ∧ Cut rdC (constN c) := fun c hc => ⟨fun t => rdC_constN c t (h.pool c hc), rdC_cut c (h.pool c hc)⟩
  rcases pre_split e hu with ⟨v, k1, k2⟩ | ⟨t', rfl, kk⟩
  · exact (rdF4_stick _).five (rdS_cut rdC constN cleanC 2 (by decide) f.pool (by have := h.np; show _ < 65536; omega) hcut t' v k1 k2)
  clear e; have e := kk; clear kk
  rw [rdS_list rdC constN cleanC 2 (by decide) f.pool _ (by have := h.np; show _ < 65536; omega) (fun c hc t => rdC_constN c t (h.pool c hc))]
  exact rdF4_cut f h _ t' u e hu
theorem tagged_rng {p : List Cn} {i t : Int} (hp : p.length ≤ 2000) (h : tagged p i t = true) : 1 ≤ i ∧ i ≤ 2000 := by
  obtain ⟨k, c, rfl, _, hk, _⟩ := tagged_some h
  omega
theorem linkB_rng {p : List Cn} {i t : Int} (hp : p.length ≤ 2000) (h : linkB p i t = true) : 0 ≤ i ∧ i ≤ 2000 ∧ (t = 0 → i = 0) := by
  unfold linkB at h
  split at h
  · rename_i h0
    have := of_decide_eq_true h
    exact ⟨by omega, by omega, fun _ => this⟩
  · rename_i h0
    have := tagged_rng hp h
    exact ⟨by omega, by omega, fun h => absurd h h0⟩
theorem noneB_rng {p : List Cn} {i : Int} (hp : p.length ≤ 2000) (h : noneB p i = true) : 0 ≤ i ∧ i ≤ 65535 := by
  unfold noneB at h
  rw [Bool.or_eq_true] at h
  rcases h with h | h
  · have := of_decide_eq_true h
    omega
  · have := tagged_rng hp h
    omega
theorem size_nil {s : ByteArray} (h : s.size = 0) : s = ⟨#[]⟩ := by
  obtain ⟨d⟩ := s
  have : d.size = 0 := h
  rw [Array.size_eq_zero_iff.1 this]
theorem cn_in {p : List Cn} {c : Cn} (hp : p.length ≤ 2000) (h : constE p c = 0) (hn : -9223372036854775808 ≤ c.n ∧ c.n ≤ 9223372036854775807) : CnIn c ∧ cleanC c = c := by
  unfold constE at h
  split at h
  · rename_i ht
    split at h
    · rename_i hl
      obtain ⟨tag, text, n, a, b, d⟩ := c
      unfold rightTagB at ht
      unfold linksB at hl
      simp only [Bool.and_eq_true, Bool.or_eq_true, decide_eq_true_eq] at ht hl hn
      obtain ⟨⟨⟨ht1, ht2⟩, ht3⟩, ht4⟩ := ht
      obtain ⟨ha, hb, hd⟩ := hl
      obtain ⟨a1, a2, a3⟩ := linkB_rng hp ha
      obtain ⟨b1, b2, b3⟩ := linkB_rng hp hb
      obtain ⟨d1, d2, d3⟩ := linkB_rng hp hd
      refine ⟨⟨⟨ht3, ht4⟩, fun h1 => ?_, fun _ => hn, fun _ => by simp only; omega, fun _ => by simp only; omega, fun _ => by simp only; omega⟩, ?_⟩
      · simp only at h1
        unfold textE at h
        rw [if_pos h1] at h
        unfold runesE at h
        simp only at h ⊢
        have he : encE (L text) = 0 := by
          split at h
          · assumption
          · rename_i hx
            exact absurd h hx
        unfold encE at he
        split at he
        · rename_i hv
          split at he
          · rename_i hle
            exact ⟨hv, hle⟩
          · simp at he
        · simp at he
      · unfold cleanC
        simp only
        unfold tag1 at a3
        unfold tag2 at b3 d3
        have hx : tag = 1 ∨ tag = 2 ∨ tag = 3 ∨ tag = 4 ∨ tag = 5 ∨ tag = 6 ∨ tag = 7 := by omega
        rcases hx with rfl | rfl | rfl | rfl | rfl | rfl | rfl <;> simp at ht1 ht2 a3 b3 d3 ⊢
        · exact ⟨ht2.symm, a3.symm, b3.symm, d3.symm⟩
        · exact ⟨(size_nil (by simpa using ht1)).symm, a3.symm, b3.symm, d3.symm⟩
        · exact ⟨(size_nil (by simpa using ht1)).symm, ht2.symm, b3.symm, d3.symm⟩
        · exact ⟨(size_nil (by simpa using ht1)).symm, ht2.symm, b3.symm, d3.symm⟩
        · exact ⟨(size_nil (by simpa using ht1)).symm, ht2.symm⟩
        · exact ⟨(size_nil (by simpa using ht1)).symm, ht2.symm⟩
        · exact ⟨(size_nil (by simpa using ht1)).symm, ht2.symm, b3.symm, d3.symm⟩
    · simp at h
  · simp at h
theorem hdE_rng {p : List Cn} {ffl last : Int} {E : ByteArray → Int} {m : Mb} (hp : p.length ≤ 2000) (hl : last ≤ 2) (h : hdE p ffl last E m = 0) : (0 ≤ m.fl ∧ m.fl ≤ last) ∧ (0 ≤ m.nm ∧ m.nm ≤ 65535) ∧ (0 ≤ m.ds ∧ m.ds ≤ 65535) := by
  unfold hdE at h
  split at h
  · simp at h
  · rename_i h1
    split at h
    · rename_i h2
      have q1 := tagged_rng hp h2.1
      have q2 := tagged_rng hp h2.2
      omega
    · simp at h
theorem bare_of {m : Mb} (h : extraE m = 0) : m.ms = 0 ∧ m.ml = 0 ∧ m.code = ⟨#[]⟩ ∧ m.hs = [] := by
  unfold extraE at h
  split at h
  · rename_i hb
    unfold bareB at hb
    simp only [Bool.and_eq_true, decide_eq_true_eq] at hb
    obtain ⟨⟨⟨h1, h2⟩, h3⟩, h4⟩ := hb
    exact ⟨h1, h2, size_nil h3, List.length_eq_zero_iff.1 h4⟩
  · simp at h
theorem mb_in {p : List Cn} {ffl : Int} {m : Mb} (hp : p.length ≤ 2000) (h1 : hdE p ffl 2 sigE m = 0) (h2 : bodyE p m = 0) : MbIn m ∧ cleanM m = m := by
  obtain ⟨q1, q2, q3⟩ := hdE_rng hp (by decide) h1
  unfold bodyE at h2
  split at h2
  · rename_i hf
    obtain ⟨k1, k2, k3, k4⟩ := bare_of h2
    obtain ⟨fl, nm, ds, ms, ml, code, hs⟩ := m
    simp only at k1 k2 k3 k4 hf q1 q2 q3
    subst k1 k2 k3 k4 hf
    refine ⟨⟨by simp, q2, q3, by simp, by simp, Nat.zero_le _, Nat.zero_le _, fun x hx => by simp at hx⟩, ?_⟩
    unfold cleanM
    simp
  · rename_i hf
    split at h2
    · simp at h2
    · rename_i k1
      split at h2
      · simp at h2
      · rename_i k2
        split at h2
        · simp at h2
        · rename_i k3
          split at h2
          · simp at h2
          · rename_i k4
            refine ⟨⟨by omega, q2, q3, by omega, by omega, by omega, by omega, fun x hx => ?_⟩, by unfold cleanM; rw [if_neg hf]⟩
            have := firstErr_zero h2 x hx
            unfold hdlE at this
            split at this
            · simp at this
            · rename_i k5
              split at this
              · rename_i k6
                have := noneB_rng hp k6
                omega
              · simp at this
theorem fl_in {f : Fl} (h : FineF f) (hr : ∀ c ∈ f.pool, -9223372036854775808 ≤ c.n ∧ c.n ≤ 9223372036854775807) : FlIn f ∧ cleanF f = f := by
  have hp := h.pool
  have hcn : ∀ c ∈ f.pool, CnIn c ∧ cleanC c = c := fun c hc => by
    have := h.pools
    unfold poolE at this
    rw [if_neg (by omega)] at this
    exact cn_in hp (firstErr_zero this c hc) (hr c hc)
  have hfd : ∀ m ∈ f.fds, ((0 ≤ m.fl ∧ m.fl ≤ 255) ∧ (0 ≤ m.nm ∧ m.nm ≤ 65535) ∧ (0 ≤ m.ds ∧ m.ds ≤ 65535)) ∧ headM (m.fl, m.nm, m.ds) = m := fun m hm => by
    have := (memsE_zero (show memsE _ _ _ = 0 from h.fds)).2 m hm
    have h1 := this (hdE f.pool f.fl 1 typeE) (by simp)
    have h2 := this extraE (by simp)
    have h3 := hdE_rng hp (by decide) h1
    obtain ⟨k1, k2, k3, k4⟩ := bare_of h2
    obtain ⟨fl, nm, ds, ms, ml, code, hs⟩ := m
    simp only at k1 k2 k3 k4 h3
    subst k1 k2 k3 k4
    refine ⟨?_, rfl⟩
    simp only
    omega
  have hmt : ∀ m ∈ f.mts, MbIn m ∧ cleanM m = m := fun m hm => by
    have := (memsE_zero (show memsE _ _ _ = 0 from h.mts)).2 m hm
    exact mb_in hp (this (hdE f.pool f.fl 2 sigE) (by simp)) (this (bodyE f.pool) (by simp))
  have hc := h.cls
  have hcl : (0 ≤ f.fl ∧ f.fl ≤ 255) ∧ (0 ≤ f.this ∧ f.this ≤ 65535) ∧ (0 ≤ f.super ∧ f.super ≤ 65535) ∧ ∀ i ∈ f.ifs, 0 ≤ i ∧ i ≤ 65535 := by
    unfold classE at hc
    split at hc
    · rename_i k1
      split at hc
      · rename_i k2
        split at hc
        · rename_i k3
          split at hc
          · simp at hc
          · split at hc
            · rename_i k5
              have := tagged_rng hp k2
              refine ⟨by omega, by omega, noneB_rng hp k3, fun i hi => ?_⟩
              have := tagged_rng hp (List.all_eq_true.1 k5 i hi)
              omega
            · simp at hc
        · simp at hc
      · simp at hc
    · simp at hc
  have hni := h.ifs
  have hnf := h.nf
  have hnm := h.nm
  refine ⟨⟨by omega, fun c hc => (hcn c hc).1, hcl.1, hcl.2.1, hcl.2.2.1, by omega, hcl.2.2.2, by omega, fun m hm => (hfd m hm).1, by omega, fun m hm => (hmt m hm).1⟩, ?_⟩
  unfold cleanF
  have e1 : f.pool.map cleanC = f.pool := by
    conv => rhs; rw [← List.map_id f.pool]
    exact List.map_congr_left fun c hc => (hcn c hc).2
  have e2 : (f.fds.map fun m => headM (m.fl, m.nm, m.ds)) = f.fds := by
    conv => rhs; rw [← List.map_id f.fds]
    exact List.map_congr_left fun c hc => (hfd c hc).2
  have e3 : f.mts.map cleanM = f.mts := by
    conv => rhs; rw [← List.map_id f.mts]
    exact List.map_congr_left fun c hc => (hmt c hc).2
  rw [e1, e2, e3]
end Go.Proofs.Ytcgloepfnnfioaa
