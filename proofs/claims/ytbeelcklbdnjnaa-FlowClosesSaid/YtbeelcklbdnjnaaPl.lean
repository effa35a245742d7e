/-
  PLAIN: instructions, what bytes are read as, where jumps lead. Nothing of the program in it.
-/
namespace Go.Proofs.Ytbeelcklbdnjnaa

/-- An instruction. -/
structure In where
  pc : Int
  op : Int
  n : Int
  keys : List Int
  to : List Int
instance : Inhabited In := ⟨⟨0, 0, 0, [], []⟩⟩
/-- The form of an op, as a byte. -/
def formP (op : Int) : Int :=
  if op < 0 ∨ 63 < op then 0
  else if op = 30 then 115
  else if 20 ≤ op ∧ op ≤ 29 then 106
  else if op = 4 ∨ op = 5 then 98
  else if op = 1 ∨ op = 2 ∨ op = 31 ∨ op = 32 ∨ (36 ≤ op ∧ op ≤ 43) ∨ op = 47 ∨ op = 48 ∨ op = 51 then 110
  else 45
def endsP (op : Int) : Bool := decide (op = 20 ∨ op = 30 ∨ (44 ≤ op ∧ op ≤ 46))
theorem formP_in (op : Int) : formP op = 0 ∨ formP op = 115 ∨ formP op = 106 ∨ formP op = 98 ∨ formP op = 110 ∨ formP op = 45 := by
  unfold formP
  repeat' split
  all_goals simp
/-- The byte at a place, and the number in two bytes. -/
def b1 (r : List UInt8) (i : Nat) : Nat := (r.getD i 0).toNat
def b2 (r : List UInt8) (i : Nat) : Int := 256 * (b1 r i : Int) + (b1 r (i + 1) : Int)
theorem b1_lt (r : List UInt8) (i : Nat) : b1 r i < 256 := UInt8.toNat_lt _
theorem b2_bd (r : List UInt8) (i : Nat) : 0 ≤ b2 r i ∧ b2 r i < 65536 := by
  have h1 := b1_lt r i
  have h2 := b1_lt r (i + 1)
  unfold b2
  omega
/-- A number of 16 bits as a signed one. -/
def s16 (n : Int) : Int := if 32768 ≤ n then n - 65536 else n
theorem s16_bd {n : Int} (h : 0 ≤ n ∧ n < 65536) : -32768 ≤ s16 n ∧ s16 n < 32768 := by unfold s16; split <;> omega
/-- The instruction at the front of bytes: its error, itself, how many bytes it has. -/
structure Out where
  e : Int
  x : In
  n : Nat
def keysP (r : List UInt8) (k : Nat) : List Int := (List.range k).map fun i => b2 r (5 + 4 * i)
def tosP (pc : Nat) (r : List UInt8) (k : Nat) : List Int := (List.range k).map fun i => (pc : Int) + s16 (b2 r (7 + 4 * i))
def oneP (pc : Nat) (r : List UInt8) : Out :=
  let op : Int := b1 r 0
  if formP op = 0 then ⟨11, default, 0⟩
  else if formP op = 45 then ⟨0, ⟨pc, op, 0, [], []⟩, 1⟩
  else if formP op = 98 then (if r.length < 2 then ⟨5, default, 0⟩ else ⟨0, ⟨pc, op, b1 r 1, [], []⟩, 2⟩)
  else if formP op = 110 then (if r.length < 3 then ⟨5, default, 0⟩ else ⟨0, ⟨pc, op, b2 r 1, [], []⟩, 3⟩)
  else if formP op = 106 then (if r.length < 3 then ⟨5, default, 0⟩ else ⟨0, ⟨pc, op, 0, [], [(pc : Int) + s16 (b2 r 1)]⟩, 3⟩)
  else if r.length < 5 then ⟨5, default, 0⟩
  else if r.length < 5 + 4 * (b2 r 3).toNat then ⟨5, default, 0⟩
  else ⟨0, ⟨pc, op, 0, keysP r (b2 r 3).toNat, ((pc : Int) + s16 (b2 r 1)) :: tosP pc r (b2 r 3).toNat⟩, 5 + 4 * (b2 r 3).toNat⟩
theorem oneP_n {pc : Nat} {r : List UInt8} (h : (oneP pc r).e = 0) : 1 ≤ (oneP pc r).n := by
  unfold oneP at h ⊢
  simp only at h ⊢
  repeat' split
  all_goals first | (simp only; omega) | (exfalso; revert h; simp_all)
theorem oneP_le {pc : Nat} {r : List UInt8} (hr : r ≠ []) (h : (oneP pc r).e = 0) : (oneP pc r).n ≤ r.length := by
  have : 0 < r.length := List.length_pos_iff.2 hr
  unfold oneP at h ⊢
  simp only at h ⊢
  repeat' split
  all_goals first | (simp only; omega) | (exfalso; revert h; simp_all)
/-- Bytes as instructions: the first error, the instructions. -/
def ins : Nat → Nat → List UInt8 → Int × List In
  | 0, _, _ => (0, [])
  | _ + 1, _, [] => (0, [])
  | f + 1, pc, c :: r =>
    let o := oneP pc (c :: r)
    if o.e ≠ 0 then (o.e, []) else
    let t := ins f (pc + o.n) ((c :: r).drop o.n)
    (t.1, o.x :: t.2)
theorem ins_fuel : ∀ (f g pc : Nat) (r : List UInt8), r.length ≤ f → r.length ≤ g → ins f pc r = ins g pc r
  | 0, 0, _, _, _, _ => rfl
  | 0, _ + 1, _, [], _, _ => rfl
  | _ + 1, 0, _, [], _, _ => rfl
  | _ + 1, _ + 1, _, [], _, _ => rfl
  | 0, _, _, _ :: _, h, _ => by simp at h
  | _ + 1, 0, _, _ :: _, _, h => by simp at h
  | f + 1, g + 1, pc, c :: r, h1, h2 => by
    unfold ins
    simp only
    split
    · rfl
    · rename_i h
      have hn := oneP_n (pc := pc) (r := c :: r) (by simpa using h)
      simp only [List.length_cons] at h1 h2
      rw [ins_fuel f g (pc + (oneP pc (c :: r)).n) ((c :: r).drop (oneP pc (c :: r)).n) (by simp only [List.length_drop, List.length_cons]; omega) (by simp only [List.length_drop, List.length_cons]; omega)]
def insP (pc : Nat) (r : List UInt8) : Int × List In := ins r.length pc r
theorem insP_nil (pc : Nat) : insP pc [] = (0, []) := rfl
theorem insP_err {pc : Nat} {r : List UInt8} (hr : r ≠ []) (h : (oneP pc r).e ≠ 0) : insP pc r = ((oneP pc r).e, []) := by
  cases r with
  | nil => exact absurd rfl hr
  | cons c r =>
    unfold insP
    rw [List.length_cons]
    unfold ins
    simp only
    rw [if_pos h]
theorem insP_ok {pc : Nat} {r : List UInt8} (hr : r ≠ []) (h : (oneP pc r).e = 0) :
    insP pc r = ((insP (pc + (oneP pc r).n) (r.drop (oneP pc r).n)).1, (oneP pc r).x :: (insP (pc + (oneP pc r).n) (r.drop (oneP pc r).n)).2) := by
  have hn := oneP_n h
  cases r with
  | nil => exact absurd rfl hr
  | cons c r =>
    show ins (c :: r).length pc (c :: r) = _
    rw [List.length_cons]
    show ins (r.length + 1) pc (c :: r) = _
    conv => lhs; unfold ins
    simp only
    rw [if_neg (by simpa using h)]
    unfold insP
    rw [ins_fuel r.length _ _ _ (by simp only [List.length_drop, List.length_cons]; omega) (Nat.le_refl _)]
/-- Where instructions lead. -/
def jumpsP (l : List In) : Bool := l.all fun x => x.to.all fun t => l.any fun y => y.pc == t
def lastP (l : List In) : Int := (l.getLast?.map In.op).getD 0
def flowP (l : List In) : Int := if jumpsP l then (if endsP (lastP l) then 0 else 13) else 12
/-- Code as instructions. -/
def lenP (n : Nat) : Int := if n = 0 then 5 else if 4096 < n then 2 else 0
def decE (s : List UInt8) : Int :=
  if lenP s.length ≠ 0 then lenP s.length else if (insP 0 s).1 ≠ 0 then (insP 0 s).1 else flowP (insP 0 s).2
def decL (s : List UInt8) : List In := if decE s = 0 then (insP 0 s).2 else []
/-- The first instruction with that place. -/
def idxP (l : List In) (pc : Int) : Int :=
  match l.findIdx? (fun x => x.pc == pc) with
  | some i => i
  | none => -1
end Go.Proofs.Ytbeelcklbdnjnaa
