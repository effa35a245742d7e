/-
  PLAIN: codes behind one another, further on, and with an op turned. Nothing of the program in it.
-/
import Derived.Test.YtbeelcklbdnjnaaPl
set_option linter.unusedVariables false
set_option linter.unusedSimpArgs false
namespace Go.Proofs.Ytbeelcklbdnjnaa

theorem ones_45 {pc : Nat} {r : List UInt8} (h : formP (b1 r 0) = 45) : oneP pc r = ⟨0, ⟨pc, (b1 r 0 : Nat), 0, [], []⟩, 1⟩ := by unfold oneP; simp only; rw [h]; simp
theorem ones_98 {pc : Nat} {r : List UInt8} (h : formP (b1 r 0) = 98) : oneP pc r = if r.length < 2 then ⟨5, default, 0⟩ else ⟨0, ⟨pc, (b1 r 0 : Nat), (b1 r 1 : Nat), [], []⟩, 2⟩ := by unfold oneP; simp only; rw [h]; simp
theorem ones_110 {pc : Nat} {r : List UInt8} (h : formP (b1 r 0) = 110) : oneP pc r = if r.length < 3 then ⟨5, default, 0⟩ else ⟨0, ⟨pc, (b1 r 0 : Nat), b2 r 1, [], []⟩, 3⟩ := by unfold oneP; simp only; rw [h]; simp
theorem ones_106 {pc : Nat} {r : List UInt8} (h : formP (b1 r 0) = 106) : oneP pc r = if r.length < 3 then ⟨5, default, 0⟩ else ⟨0, ⟨pc, (b1 r 0 : Nat), 0, [], [(pc : Int) + s16 (b2 r 1)]⟩, 3⟩ := by unfold oneP; simp only; rw [h]; simp
theorem ones_0 {pc : Nat} {r : List UInt8} (h : formP (b1 r 0) = 0) : oneP pc r = ⟨11, default, 0⟩ := by unfold oneP; simp only; rw [if_pos h]
theorem ones_115 {pc : Nat} {r : List UInt8} (h : formP (b1 r 0) = 115) : oneP pc r = if r.length < 5 then ⟨5, default, 0⟩ else if r.length < 5 + 4 * (b2 r 3).toNat then ⟨5, default, 0⟩
    else ⟨0, ⟨pc, (b1 r 0 : Nat), 0, keysP r (b2 r 3).toNat, ((pc : Int) + s16 (b2 r 1)) :: tosP pc r (b2 r 3).toNat⟩, 5 + 4 * (b2 r 3).toNat⟩ := by
  unfold oneP
  simp only
  rw [if_neg (by rw [h]; decide), if_neg (by rw [h]; decide), if_neg (by rw [h]; decide), if_neg (by rw [h]; decide), if_neg (by rw [h]; decide)]
theorem b1_take {r r' : List UInt8} {n i : Nat} (h : r'.take n = r.take n) (hi : i < n) : b1 r' i = b1 r i := by
  unfold b1
  congr 1
  have := congrArg (fun l => l[i]?) h
  simp only [List.getElem?_take, if_pos hi] at this
  simp only [List.getD, this]
theorem b2_take {r r' : List UInt8} {n i : Nat} (h : r'.take n = r.take n) (hi : i + 1 < n) : b2 r' i = b2 r i := by
  unfold b2
  rw [b1_take h (by omega), b1_take h hi]
/-- What is read hangs on no more bytes than it has. -/
theorem oneP_pre {pc : Nat} {r r' : List UInt8} (hr : r ≠ []) (he : (oneP pc r).e = 0) (h : r'.take (oneP pc r).n = r.take (oneP pc r).n) : oneP pc r' = oneP pc r := by
  have hn := oneP_n he
  have hle := oneP_le hr he
  have hlen : (oneP pc r).n ≤ r'.length := by
    have := congrArg List.length h
    simp only [List.length_take] at this
    omega
  have h0 := b1_take h (show 0 < _ by omega)
  rcases formP_in (b1 r 0) with hf | hf | hf | hf | hf | hf
  · rw [ones_0 hf] at he; cases he
  · have hf' : formP (b1 r' 0) = 115 := by rw [h0]; exact hf
    rw [ones_115 hf] at he hn hle hlen h ⊢
    split at he
    · cases he
    split at he
    · cases he
    rename_i h5 h6
    rw [if_neg h5, if_neg h6] at hlen h
    simp only at hlen h
    have e3 : b2 r' 3 = b2 r 3 := b2_take h (by omega)
    rw [ones_115 hf', e3, if_neg (by omega), if_neg (by omega), if_neg h5, if_neg h6]
    have e1 : b2 r' 1 = b2 r 1 := b2_take h (by omega)
    have ek : keysP r' (b2 r 3).toNat = keysP r (b2 r 3).toNat := by
      unfold keysP
      apply List.map_congr_left
      intro i hi
      rw [List.mem_range] at hi
      exact b2_take h (by omega)
    have et : tosP pc r' (b2 r 3).toNat = tosP pc r (b2 r 3).toNat := by
      unfold tosP
      apply List.map_congr_left
      intro i hi
      rw [List.mem_range] at hi
      rw [b2_take h (by omega)]
    rw [ek, et, e1, h0]
  · have hf' : formP (b1 r' 0) = 106 := by rw [h0]; exact hf
    rw [ones_106 hf] at he hn hle hlen h ⊢
    split at he
    · cases he
    rename_i h5
    rw [if_neg h5] at hlen h
    simp only at hlen h
    rw [ones_106 hf', if_neg (by omega), if_neg h5, h0, b2_take h (by omega)]
  · have hf' : formP (b1 r' 0) = 98 := by rw [h0]; exact hf
    rw [ones_98 hf] at he hn hle hlen h ⊢
    split at he
    · cases he
    rename_i h5
    rw [if_neg h5] at hlen h
    simp only at hlen h
    rw [ones_98 hf', if_neg (by omega), if_neg h5, h0, b1_take h (by omega)]
  · have hf' : formP (b1 r' 0) = 110 := by rw [h0]; exact hf
    rw [ones_110 hf] at he hn hle hlen h ⊢
    split at he
    · cases he
    rename_i h5
    rw [if_neg h5] at hlen h
    simp only at hlen h
    rw [ones_110 hf', if_neg (by omega), if_neg h5, h0, b2_take h (by omega)]
  · have hf' : formP (b1 r' 0) = 45 := by rw [h0]; exact hf
    rw [ones_45 hf, ones_45 hf', h0]
/-- An instruction that stands k places further on. -/
def shI (k : Nat) (x : In) : In := { x with pc := x.pc + k, to := x.to.map fun t => t + k }
theorem oneP_sh (pc k : Nat) (r : List UInt8) : (oneP (pc + k) r).e = (oneP pc r).e ∧ (oneP (pc + k) r).n = (oneP pc r).n ∧ ((oneP pc r).e = 0 → (oneP (pc + k) r).x = shI k (oneP pc r).x) := by
  rcases formP_in (b1 r 0) with hf | hf | hf | hf | hf | hf
  · rw [ones_0 hf, ones_0 hf]; exact ⟨rfl, rfl, fun h => by cases h⟩
  · rw [ones_115 hf, ones_115 hf]
    split
    · exact ⟨rfl, rfl, fun h => by cases h⟩
    split
    · exact ⟨rfl, rfl, fun h => by cases h⟩
    refine ⟨rfl, rfl, fun _ => ?_⟩
    unfold shI tosP
    simp only [In.mk.injEq, List.map_cons, List.cons.injEq, List.map_map, true_and, Int.natCast_add]
    refine ⟨by omega, ?_⟩
    apply List.map_congr_left
    intro i _
    simp only [Function.comp]
    omega
  · rw [ones_106 hf, ones_106 hf]
    split
    · exact ⟨rfl, rfl, fun h => by cases h⟩
    refine ⟨rfl, rfl, fun _ => ?_⟩
    unfold shI
    simp only [In.mk.injEq, List.map_cons, List.map_nil, List.cons.injEq, true_and, and_true, Int.natCast_add]
    omega
  · rw [ones_98 hf, ones_98 hf]
    split
    · exact ⟨rfl, rfl, fun h => by cases h⟩
    exact ⟨rfl, rfl, fun _ => by simp [shI]⟩
  · rw [ones_110 hf, ones_110 hf]
    split
    · exact ⟨rfl, rfl, fun h => by cases h⟩
    exact ⟨rfl, rfl, fun _ => by simp [shI]⟩
  · rw [ones_45 hf, ones_45 hf]
    exact ⟨rfl, rfl, fun _ => by simp [shI]⟩
theorem insP_sh : ∀ (m pc k : Nat) (r : List UInt8), r.length ≤ m → insP (pc + k) r = ((insP pc r).1, (insP pc r).2.map (shI k))
  | _, pc, k, [], _ => by rw [insP_nil, insP_nil]; rfl
  | 0, _, _, _ :: _, h => by simp at h
  | m + 1, pc, k, c :: r, h => by
    obtain ⟨h1, h2, h3⟩ := oneP_sh pc k (c :: r)
    by_cases he : (oneP pc (c :: r)).e = 0
    · rw [insP_ok (by simp) he, insP_ok (by simp) (h1.trans he), h2, h3 he]
      have hn := oneP_n he
      have := insP_sh m (pc + (oneP pc (c :: r)).n) k ((c :: r).drop (oneP pc (c :: r)).n) (by simp only [List.length_drop, List.length_cons] at h ⊢; omega)
      rw [show pc + k + (oneP pc (c :: r)).n = pc + (oneP pc (c :: r)).n + k by omega, this]
      rfl
    · rw [insP_err (by simp) he, insP_err (by simp) (by rw [h1]; exact he), h1]
      rfl
theorem insP_app : ∀ (m pc : Nat) (s t : List UInt8), s.length ≤ m → (insP pc s).1 = 0 → insP pc (s ++ t) = ((insP (pc + s.length) t).1, (insP pc s).2 ++ (insP (pc + s.length) t).2)
  | _, pc, [], t, _, _ => by rw [insP_nil]; rfl
  | 0, _, _ :: _, _, h, _ => by simp at h
  | m + 1, pc, c :: s, t, h, h0 => by
    have hne : c :: s ≠ [] := by simp
    by_cases he : (oneP pc (c :: s)).e = 0
    · have hle := oneP_le hne he
      have hn := oneP_n he
      have hpre : oneP pc ((c :: s) ++ t) = oneP pc (c :: s) := oneP_pre hne he (List.take_append_of_le_length hle)
      rw [insP_ok hne he] at h0 ⊢
      simp only at h0
      rw [insP_ok (r := (c :: s) ++ t) (by simp) (by rw [hpre]; exact he), hpre, List.drop_append_of_le_length hle]
      have := insP_app m (pc + (oneP pc (c :: s)).n) ((c :: s).drop (oneP pc (c :: s)).n) t (by simp only [List.length_drop, List.length_cons] at h ⊢; omega) h0
      rw [this, show pc + (oneP pc (c :: s)).n + ((c :: s).drop (oneP pc (c :: s)).n).length = pc + (c :: s).length by simp only [List.length_drop] at *; omega]
      rfl
    · rw [insP_err hne he] at h0
      exact absurd h0 he
theorem insP_ne {pc : Nat} {s : List UInt8} (hs : s ≠ []) (h : (insP pc s).1 = 0) : (insP pc s).2 ≠ [] := by
  by_cases he : (oneP pc s).e = 0
  · rw [insP_ok hs he]; simp
  · rw [insP_err hs he] at h; exact absurd h he
theorem decE_ok {s : List UInt8} (h : decE s = 0) : s ≠ [] ∧ s.length ≤ 4096 ∧ (insP 0 s).1 = 0 ∧ flowP (insP 0 s).2 = 0 ∧ decL s = (insP 0 s).2 := by
  have hl : decL s = (insP 0 s).2 := by unfold decL; rw [if_pos h]
  unfold decE at h
  split at h
  · rename_i hn; exact absurd h hn
  rename_i hz
  split at h
  · rename_i hn; exact absurd h hn
  rename_i hi
  have hz' : lenP s.length = 0 := by simpa using hz
  unfold lenP at hz'
  split at hz'
  · cases hz'
  rename_i h0
  split at hz'
  · cases hz'
  exact ⟨by rintro rfl; simp at h0, by omega, by simpa using hi, h, hl⟩
theorem decE_mk {s : List UInt8} (h0 : s ≠ []) (h1 : s.length ≤ 4096) : decE s = if (insP 0 s).1 ≠ 0 then (insP 0 s).1 else flowP (insP 0 s).2 := by
  have hz : lenP s.length = 0 := by
    unfold lenP
    have := List.length_pos_iff.2 h0
    rw [if_neg (by omega), if_neg (by omega)]
  unfold decE
  rw [hz, if_neg (by decide)]
theorem flow_ok {l : List In} (h : flowP l = 0) : jumpsP l = true ∧ endsP (lastP l) = true := by
  unfold flowP at h
  split at h
  · split at h
    · exact ⟨by assumption, by assumption⟩
    · cases h
  · cases h
theorem jumps_mem {l : List In} : jumpsP l = true ↔ ∀ x ∈ l, ∀ t ∈ x.to, ∃ y ∈ l, y.pc = t := by
  unfold jumpsP
  simp only [List.all_eq_true, List.any_eq_true, beq_iff_eq]
theorem last_app {a b : List In} (h : b ≠ []) : lastP (a ++ b) = lastP b := by
  unfold lastP
  rw [List.getLast?_append]
  have : b.getLast?.isSome := by simpa using h
  cases hb : b.getLast? with
  | none => simp [hb] at this
  | some x => rfl
theorem last_sh (k : Nat) (b : List In) : lastP (b.map (shI k)) = lastP b := by
  unfold lastP
  rw [List.getLast?_map]
  cases b.getLast? <;> rfl
/-- Two codes, one behind the other. -/
theorem dec_join {s t : List UInt8} (hs : decE s = 0) (ht : decE t = 0) (hl : s.length + t.length ≤ 4096) : decE (s ++ t) = 0 ∧ decL (s ++ t) = decL s ++ (decL t).map (shI s.length) := by
  obtain ⟨s1, s2, s3, s4, s5⟩ := decE_ok hs
  obtain ⟨t1, t2, t3, t4, t5⟩ := decE_ok ht
  have hi := insP_app s.length 0 s t (Nat.le_refl _) s3
  have hsh := insP_sh t.length 0 s.length t (Nat.le_refl _)
  rw [hsh, t3] at hi
  have hn := insP_ne t1 t3
  have hfl : flowP ((insP 0 s).2 ++ (insP 0 t).2.map (shI s.length)) = 0 := by
    obtain ⟨js, _⟩ := flow_ok s4
    obtain ⟨jt, et⟩ := flow_ok t4
    rw [jumps_mem] at js jt
    unfold flowP
    rw [if_pos, last_app (by simpa using hn), last_sh, if_pos et]
    rw [jumps_mem]
    intro x hx u hu
    rcases List.mem_append.1 hx with hx | hx
    · obtain ⟨y, hy, e⟩ := js x hx u hu
      exact ⟨y, List.mem_append_left _ hy, e⟩
    · obtain ⟨z, hz, rfl⟩ := List.mem_map.1 hx
      unfold shI at hu
      obtain ⟨v, hv, rfl⟩ := List.mem_map.1 hu
      obtain ⟨y, hy, e⟩ := jt z hz v hv
      exact ⟨shI s.length y, List.mem_append_right _ (List.mem_map_of_mem hy), by show y.pc + _ = _; rw [e]⟩
  have he : decE (s ++ t) = 0 := by
    rw [decE_mk (by simp [s1]) (by simpa using hl), hi]
    simpa using hfl
  refine ⟨he, ?_⟩
  rw [(decE_ok he).2.2.2.2, hi, s5, t5]
/-- Nothing but nops. -/
def nopI (k : Nat) : List In := (List.range k).map fun (i : Nat) => (⟨(i : Int), 0, 0, [], []⟩ : In)
theorem insP_nops (k : Nat) : insP 0 (List.replicate k 0) = (0, nopI k) := by
  induction k with
  | zero => rfl
  | succ k ih =>
    have h0 : (insP 0 (List.replicate k (0 : UInt8))).1 = 0 := by rw [ih]
    rw [List.replicate_succ', insP_app k 0 _ [0] (by simp) h0, ih]
    have h1 : insP (0 + (List.replicate k (0 : UInt8)).length) [0] = (0, [⟨(k : Int), 0, 0, [], []⟩]) := by
      rw [insP_ok (by simp) (by rw [ones_45 (by decide)]), ones_45 (by decide)]
      simp [insP_nil, b1]
    rw [h1]
    unfold nopI
    rw [List.range_succ, List.map_append]
    rfl
theorem dec_move {s : List UInt8} {n : Nat} (h : s.length + n ≤ 4096) (hs : s ≠ []) :
    (decE s = 12 ∨ decE (List.replicate n 0 ++ s) = decE s) ∧ (decE s = 0 → decL (List.replicate n 0 ++ s) = nopI n ++ (decL s).map (shI n)) := by
  have hz : (insP 0 (List.replicate n (0 : UInt8))).1 = 0 := by rw [insP_nops]
  have hi := insP_app n 0 (List.replicate n 0) s (by simp) hz
  rw [insP_nops, insP_sh s.length 0 _ s (Nat.le_refl _), List.length_replicate] at hi
  have hm := decE_mk (s := List.replicate n 0 ++ s) (by simp [hs]) (by simp; omega)
  have hd := decE_mk hs (by omega : s.length ≤ 4096)
  rw [hi] at hm
  simp only at hm
  by_cases he : (insP 0 s).1 = 0
  · rw [if_neg (by simpa using he)] at hm hd
    have hn := insP_ne hs he
    have hlast : lastP (nopI n ++ (insP 0 s).2.map (shI n)) = lastP (insP 0 s).2 := by rw [last_app (by simpa using hn), last_sh]
    have key : decE s = 12 ∨ decE (List.replicate n 0 ++ s) = decE s := by
      rw [hm, hd]
      unfold flowP
      rw [hlast]
      by_cases hj : jumpsP (insP 0 s).2 = true
      · right
        rw [if_pos hj, if_pos]
        rw [jumps_mem] at hj ⊢
        intro x hx u hu
        rcases List.mem_append.1 hx with hx | hx
        · unfold nopI at hx
          obtain ⟨i, _, rfl⟩ := List.mem_map.1 hx
          simp at hu
        · obtain ⟨z, hz, rfl⟩ := List.mem_map.1 hx
          unfold shI at hu
          obtain ⟨v, hv, rfl⟩ := List.mem_map.1 hu
          obtain ⟨y, hy, e⟩ := hj z hz v hv
          exact ⟨shI n y, List.mem_append_right _ (List.mem_map_of_mem hy), by show y.pc + _ = _; rw [e]⟩
      · left
        rw [if_neg hj]
    refine ⟨key, fun h0 => ?_⟩
    have h1 : decE (List.replicate n 0 ++ s) = 0 := by
      rcases key with k | k
      · rw [h0] at k; cases k
      · rw [k, h0]
    rw [(decE_ok h1).2.2.2.2, hi, (decE_ok h0).2.2.2.2]
  · rw [if_pos (by simpa using he)] at hm hd
    exact ⟨.inr (by rw [hm, hd]), fun h0 => absurd (hd ▸ h0) he⟩
/-- How many bytes an instruction has. -/
def widP (x : In) : Nat := if formP x.op = 98 then 2 else if formP x.op = 110 ∨ formP x.op = 106 then 3 else if formP x.op = 115 then 5 + 4 * x.keys.length else 1
theorem oneP_wid {pc : Nat} {r : List UInt8} (he : (oneP pc r).e = 0) : widP (oneP pc r).x = (oneP pc r).n ∧ (oneP pc r).x.op = b1 r 0 ∧ (oneP pc r).x.pc = pc := by
  rcases formP_in (b1 r 0) with hf | hf | hf | hf | hf | hf
  · rw [ones_0 hf] at he; cases he
  · rw [ones_115 hf] at he ⊢
    split at he
    · cases he
    split at he
    · cases he
    rename_i h5 h6
    rw [if_neg h5, if_neg h6]
    unfold widP
    simp only
    rw [hf]
    simp [keysP]
  · rw [ones_106 hf] at he ⊢
    split at he
    · cases he
    rename_i h5
    rw [if_neg h5]
    unfold widP
    simp only
    rw [hf]
    simp
  · rw [ones_98 hf] at he ⊢
    split at he
    · cases he
    rename_i h5
    rw [if_neg h5]
    unfold widP
    simp only
    rw [hf]
    simp
  · rw [ones_110 hf] at he ⊢
    split at he
    · cases he
    rename_i h5
    rw [if_neg h5]
    unfold widP
    simp only
    rw [hf]
    simp
  · rw [ones_45 hf] at he ⊢
    unfold widP
    simp only
    rw [hf]
    simp
/-- Instructions one behind the other: each at its place, with its byte; the next where it ends. -/
def Run : Nat → List UInt8 → List In → Prop
  | _, r, [] => r = []
  | pc, r, x :: l => x.pc = pc ∧ widP x ≤ r.length ∧ 0 < widP x ∧ x.op = b1 r 0 ∧ Run (pc + widP x) (r.drop (widP x)) l
theorem run_of : ∀ (m pc : Nat) (r : List UInt8), r.length ≤ m → (insP pc r).1 = 0 → Run pc r (insP pc r).2
  | _, _, [], _, _ => by rw [insP_nil]; rfl
  | 0, _, _ :: _, h, _ => by simp at h
  | m + 1, pc, c :: r, h, h0 => by
    have hne : c :: r ≠ [] := by simp
    by_cases he : (oneP pc (c :: r)).e = 0
    · have hle := oneP_le hne he
      have hn := oneP_n he
      obtain ⟨w1, w2, w3⟩ := oneP_wid he
      rw [insP_ok hne he] at h0 ⊢
      simp only at h0 ⊢
      refine ⟨w3, by omega, by omega, w2, ?_⟩
      rw [w1]
      exact run_of m _ _ (by simp only [List.length_drop, List.length_cons] at h ⊢; omega) h0
    · rw [insP_err hne he] at h0
      exact absurd h0 he
/-- The facts of an instruction at a place of the list. -/
theorem run_at : ∀ (l : List In) (pc : Nat) (r : List UInt8), Run pc r l → ∀ (i : Nat) (x : In), l[i]? = some x →
    ∃ q : Nat, x.pc = pc + q ∧ q < r.length ∧ x.op = b1 r q ∧ (∀ y, l[i + 1]? = some y → y.pc = x.pc + widP x) ∧ (l.length = i + 1 → (pc : Int) + r.length = x.pc + widP x) ∧ (i = 0 → q = 0)
  | [], _, _, _, i, x, h => by simp at h
  | y :: l, pc, r, hr, 0, x, h => by
    simp only [List.getElem?_cons_zero, Option.some.injEq] at h
    subst h
    obtain ⟨h1, h2, h3, h4, h5⟩ := hr
    refine ⟨0, by simpa using h1, by omega, h4, fun z hz => ?_, fun hl => ?_, fun _ => rfl⟩
    · simp only [List.getElem?_cons_succ] at hz
      cases l with
      | nil => simp at hz
      | cons a l =>
        simp only [List.getElem?_cons_zero, Option.some.injEq] at hz
        subst hz
        rw [h5.1, h1]
        omega
    · have : l = [] := by simpa using hl
      subst this
      have h6 : r.drop (widP y) = [] := h5
      have := congrArg List.length h6
      simp only [List.length_drop, List.length_nil] at this
      omega
  | y :: l, pc, r, hr, i + 1, x, h => by
    simp only [List.getElem?_cons_succ] at h
    obtain ⟨h1, h2, h3, h4, h5⟩ := hr
    obtain ⟨q, a1, a2, a3, a4, a5, _⟩ := run_at l _ _ h5 i x h
    simp only [List.length_drop] at a2
    refine ⟨widP y + q, by rw [a1]; omega, by omega, ?_, fun z hz => a4 z (by simpa using hz), fun hl => ?_, fun h => by omega⟩
    · rw [a3]
      unfold b1
      simp only [List.getD, List.getElem?_drop]
    · have := a5 (by simpa using hl)
      simp only [List.length_drop] at this
      omega
theorem run_pos : ∀ (l : List In) (pc : Nat) (r : List UInt8), Run pc r l → ∀ x ∈ l, (pc : Int) ≤ x.pc ∧ 0 < widP x
  | [], _, _, _, x, h => by simp at h
  | y :: l, pc, r, hr, x, h => by
    obtain ⟨h1, h2, h3, h4, h5⟩ := hr
    rcases List.mem_cons.1 h with rfl | h
    · exact ⟨by omega, h3⟩
    · have := run_pos l _ _ h5 x h
      exact ⟨by omega, this.2⟩
theorem run_lt : ∀ (l : List In) (pc : Nat) (r : List UInt8), Run pc r l → ∀ (i j : Nat) (x y : In), i < j → l[i]? = some x → l[j]? = some y → x.pc < y.pc
  | [], _, _, _, i, j, x, y, _, h, _ => by simp at h
  | z :: l, pc, r, hr, 0, j + 1, x, y, _, hx, hy => by
    simp only [List.getElem?_cons_zero, Option.some.injEq] at hx
    subst hx
    simp only [List.getElem?_cons_succ] at hy
    obtain ⟨h1, h2, h3, h4, h5⟩ := hr
    have := (run_pos l _ _ h5 y (List.mem_of_getElem? hy)).1
    omega
  | z :: l, pc, r, hr, i + 1, j + 1, x, y, hij, hx, hy => by
    simp only [List.getElem?_cons_succ] at hx hy
    exact run_lt l _ _ hr.2.2.2.2 i j x y (by omega) hx hy
/-- An op that is turned into another one of its form. -/
theorem oneP_turn {pc : Nat} {c : UInt8} {r : List UInt8} {b : UInt8} (he : (oneP pc (c :: r)).e = 0) (hf : formP b.toNat = formP c.toNat) :
    oneP pc (b :: r) = ⟨0, { (oneP pc (c :: r)).x with op := b.toNat }, (oneP pc (c :: r)).n⟩ := by
  have hb0 : ∀ c : UInt8, b1 (c :: r) 0 = c.toNat := fun _ => rfl
  have hb1 : ∀ (c d : UInt8) i, b1 (c :: r) (i + 1) = b1 (d :: r) (i + 1) := fun _ _ _ => rfl
  have hb2 : ∀ (c d : UInt8) i, b2 (c :: r) (i + 1) = b2 (d :: r) (i + 1) := fun _ _ _ => rfl
  rcases formP_in (b1 (c :: r) 0) with h | h | h | h | h | h
  · rw [ones_0 h] at he; cases he
  all_goals
    have h' : formP (b1 (b :: r) 0) = formP (b1 (c :: r) 0) := by rw [hb0, hb0]; exact hf
    rw [h] at h'
  · rw [ones_115 h] at he ⊢
    rw [ones_115 h']
    have e3 : b2 (b :: r) 3 = b2 (c :: r) 3 := hb2 _ _ 2
    have ek : ∀ k, keysP (b :: r) k = keysP (c :: r) k := fun k => by
      unfold keysP
      apply List.map_congr_left
      intro i _
      rw [show 5 + 4 * i = (4 + 4 * i) + 1 by omega]
      exact hb2 _ _ _
    have et : ∀ k, tosP pc (b :: r) k = tosP pc (c :: r) k := fun k => by
      unfold tosP
      apply List.map_congr_left
      intro i _
      rw [show 7 + 4 * i = (6 + 4 * i) + 1 by omega, hb2 b c]
    rw [e3, ek, et]
    simp only [List.length_cons] at he ⊢
    split at he
    · cases he
    split at he
    · cases he
    rename_i h5 h6
    rw [if_neg h5, if_neg h6, if_neg h5, if_neg h6]
    rfl
  · rw [ones_106 h] at he ⊢
    rw [ones_106 h']
    simp only [List.length_cons] at he ⊢
    split at he
    · cases he
    rename_i h5
    rw [if_neg h5, if_neg h5]
    rfl
  · rw [ones_98 h] at he ⊢
    rw [ones_98 h']
    simp only [List.length_cons] at he ⊢
    split at he
    · cases he
    rename_i h5
    rw [if_neg h5, if_neg h5]
    rfl
  · rw [ones_110 h] at he ⊢
    rw [ones_110 h']
    simp only [List.length_cons] at he ⊢
    split at he
    · cases he
    rename_i h5
    rw [if_neg h5, if_neg h5]
    rfl
  · rw [ones_45 h] at he ⊢
    rw [ones_45 h']
    rfl
theorem insP_turn : ∀ (k pc : Nat) (r : List UInt8) (x : In) (q : Nat) (b : UInt8), (insP pc r).1 = 0 → (insP pc r).2[k]? = some x → x.pc = pc + q → formP b.toNat = formP x.op →
    insP pc (r.set q b) = (0, (insP pc r).2.set k { x with op := b.toNat })
  | k, pc, [], x, q, b, h0, hx, hq, hf => by rw [insP_nil] at hx; simp at hx
  | 0, pc, c :: r, x, q, b, h0, hx, hq, hf => by
    have hne : c :: r ≠ [] := by simp
    by_cases he : (oneP pc (c :: r)).e = 0
    · obtain ⟨w1, w2, w3⟩ := oneP_wid he
      rw [insP_ok hne he] at h0 hx ⊢
      simp only [List.getElem?_cons_zero, Option.some.injEq] at hx h0
      subst hx
      have hq0 : q = 0 := by omega
      subst hq0
      have ht := oneP_turn (b := b) he (by rw [hf, w2]; rfl)
      have hn := oneP_n he
      rw [List.set_cons_zero, insP_ok (by simp) (by rw [ht]), ht]
      simp only
      rw [show (b :: r).drop (oneP pc (c :: r)).n = (c :: r).drop (oneP pc (c :: r)).n by
        obtain ⟨n, hn'⟩ : ∃ n, (oneP pc (c :: r)).n = n + 1 := ⟨(oneP pc (c :: r)).n - 1, by omega⟩
        rw [hn']; rfl]
      rw [h0]
      rfl
    · rw [insP_err hne he] at h0; exact absurd h0 he
  | k + 1, pc, c :: r, x, q, b, h0, hx, hq, hf => by
    have hne : c :: r ≠ [] := by simp
    by_cases he : (oneP pc (c :: r)).e = 0
    · have hn := oneP_n he
      have hle := oneP_le hne he
      rw [insP_ok hne he] at h0 hx ⊢
      simp only [List.getElem?_cons_succ] at hx h0
      have hrun := run_of _ _ _ (Nat.le_refl _) h0
      have hge := (run_pos _ _ _ hrun x (List.mem_of_getElem? hx)).1
      have hq' : (oneP pc (c :: r)).n ≤ q := by omega
      have hpre : oneP pc ((c :: r).set q b) = oneP pc (c :: r) := oneP_pre hne he (by rw [List.take_set_of_le hq'])
      rw [insP_ok (by simp) (by rw [hpre]; exact he), hpre]
      have hd : ((c :: r).set q b).drop (oneP pc (c :: r)).n = ((c :: r).drop (oneP pc (c :: r)).n).set (q - (oneP pc (c :: r)).n) b := by
        rw [List.drop_set, if_neg (by omega)]
      rw [hd, insP_turn k _ _ x (q - (oneP pc (c :: r)).n) b h0 hx (by omega) hf]
      rfl
    · rw [insP_err hne he] at h0; exact absurd h0 he
theorem mem_set_pc {l : List In} {k : Nat} {x z : In} (hk : l[k]? = some x) (hz : z.pc = x.pc) (p : Int) : (∃ y ∈ l, y.pc = p) → ∃ y ∈ l.set k z, y.pc = p := by
  rintro ⟨y, hy, e⟩
  obtain ⟨j, hj⟩ := List.mem_iff_getElem?.1 hy
  have hkl : k < l.length := (List.getElem?_eq_some_iff.1 hk).1
  by_cases h : k = j
  · subst h
    rw [hk] at hj
    cases hj
    exact ⟨z, List.mem_iff_getElem?.2 ⟨k, by rw [List.getElem?_set_self hkl]⟩, by rw [hz, e]⟩
  · exact ⟨y, List.mem_iff_getElem?.2 ⟨j, by rw [List.getElem?_set_ne h]; exact hj⟩, e⟩
theorem dec_turn {s : List UInt8} {k q : Nat} {x : In} {b : UInt8} (hs : decE s = 0) (hx : (decL s)[k]? = some x) (hq : x.pc = q) (hf : formP b.toNat = formP x.op) (he : endsP b.toNat = endsP x.op) :
    decE (s.set q b) = 0 ∧ decL (s.set q b) = (decL s).set k { x with op := b.toNat } := by
  obtain ⟨s1, s2, s3, s4, s5⟩ := decE_ok hs
  rw [s5] at hx
  have ht := insP_turn k 0 s x q b s3 hx (by omega) hf
  obtain ⟨j1, j2⟩ := flow_ok s4
  have hkl : k < (insP 0 s).2.length := (List.getElem?_eq_some_iff.1 hx).1
  have hfl : flowP ((insP 0 s).2.set k { x with op := b.toNat }) = 0 := by
    unfold flowP
    rw [jumps_mem] at j1
    rw [if_pos, if_pos]
    · unfold lastP at j2 ⊢
      rw [List.getLast?_eq_getElem?] at j2 ⊢
      rw [List.length_set]
      by_cases h : k = (insP 0 s).2.length - 1
      · rw [← h, List.getElem?_set_self hkl]
        rw [← h, hx] at j2
        simp only [Option.map_some, Option.getD_some] at j2 ⊢
        rw [he]; exact j2
      · rw [List.getElem?_set_ne h]; exact j2
    · rw [jumps_mem]
      intro y hy t ht
      refine mem_set_pc (z := { x with op := (b.toNat : Int) }) hx rfl t ?_
      rcases List.mem_or_eq_of_mem_set hy with hy | rfl
      · exact j1 y hy t ht
      · exact j1 x (List.mem_of_getElem? hx) t ht
  have hE : decE (s.set q b) = 0 := by
    rw [decE_mk (by simpa using s1) (by simpa using s2), ht]
    simpa using hfl
  exact ⟨hE, by rw [(decE_ok hE).2.2.2.2, ht, s5]⟩
end Go.Proofs.Ytbeelcklbdnjnaa
