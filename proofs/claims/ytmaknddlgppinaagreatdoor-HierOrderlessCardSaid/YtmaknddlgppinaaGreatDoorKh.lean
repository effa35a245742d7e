/-
  WALK of turnedRound: raw classes in another order.
-/
import Derived.Test.YtmaknddlgppinaaGreatDoorX30
import Derived.Deep.QuietTactic
import Derived.Deep.RegionLaw
set_option linter.unusedVariables false
set_option linter.unusedSimpArgs false
namespace Go.Proofs.YtmaknddlgppinaaGreatDoor
open Go.RowKit

def zcells (rs : List Rw) (xs : List Value) : List Value := (rs.zip xs).flatMap fun p => rwcells p.1 p.2
theorem zcells_len : ∀ {rs : List Rw} {xs : List Value}, xs.length = rs.length → (zcells rs xs).length = rs.length * 4
  | [], [], _ => rfl
  | r :: rs, x :: xs, h => by
    have := zcells_len (rs := rs) (xs := xs) (by simpa using h)
    unfold zcells at this ⊢
    rw [List.zip_cons_cons, List.flatMap_cons, List.length_append, this, List.length_cons]
    simp [rwcells]
    omega
theorem zcells_split {rs : List Rw} {xs : List Value} (h : xs.length = rs.length) (k : Nat) : zcells rs xs = zcells (rs.take k) (xs.take k) ++ zcells (rs.drop k) (xs.drop k) := by
  unfold zcells
  rw [← List.flatMap_append, ← List.zip_append (by simp [h]), List.take_append_drop, List.take_append_drop]
theorem zcells_app {rs ss : List Rw} {xs ys : List Value} (h : rs.length = xs.length) : zcells (rs ++ ss) (xs ++ ys) = zcells rs xs ++ zcells ss ys := by
  unfold zcells
  rw [List.zip_append h, List.flatMap_append]
theorem zcells_one {B : Nat} {w : World} {rs : List Rw} : ∀ {xs : List Value}, (∀ (i : Nat) (r : Rw) (x : Value), rs[i]? = some r → xs[i]? = some x → IRow B w x r.ifs) → ∀ u ∈ zcells rs xs, u.oneCell' = true := by
  induction rs with
  | nil => intro xs _ u hu; cases xs <;> cases hu
  | cons r rs ih =>
    intro xs h u hu
    cases xs with
    | nil => cases hu
    | cons x xs =>
      unfold zcells at hu
      rw [List.zip_cons_cons, List.flatMap_cons] at hu
      rcases List.mem_append.1 hu with hu | hu
      · obtain ⟨A, c, rfl, _⟩ := h 0 r x rfl rfl
        simp [rwcells] at hu
        rcases hu with rfl | rfl | rfl | rfl <;> rfl
      · exact ih (fun i r x a b => h (i + 1) r x (by simpa using a) (by simpa using b)) u hu
theorem und23 : Tryz.prog.underlying 23 = some (.slice 99) := by kernel_rfl
theorem info99 : ∃ i, Tryz.prog.info? 99 = some i ∧ i.zero = some (.agg #[.int .i64 0, .int .i64 0, .int .i64 0, .slice none 0 0]) ∧ i.size = 4 ∧ i.bytes = 48 := info_parts (by kernel_rfl)
theorem news_two {w w3 : World} {b o : Nat} {l : List Value} {ob : Obj} (hg : b < w.heap.size) (h : ∀ j u, l[j]? = some u → w.cell? ⟨b, o + j, none⟩ = some u) (hgr : (w.alloc ob).drew.grownBy w3 (some w.heap.size)) : ∀ j u, l[j]? = some u → w3.cell? (({ block := b, off := o } : Addr).add j) = some u := by
  intro j u hu
  rw [plain_add]
  have h2 : w3.heap[b]? = (w.alloc ob).heap[b]? := hgr.block b (by show b < (w.alloc ob).heap.size; simp; omega) (by intro e; injection e with e; omega)
  rw [Below.heap_alloc _ _ _ hg] at h2
  rw [← h j u hu]
  exact World.cell?_of_block (w := w) h2
theorem news_one {w : World} {b o : Nat} {l : List Value} {ob : Obj} (hg : b < w.heap.size) (h : ∀ j u, l[j]? = some u → w.cell? ⟨b, o + j, none⟩ = some u) : ∀ j u, l[j]? = some u → (w.alloc ob).drew.cell? (({ block := b, off := o } : Addr).add j) = some u := by
  intro j u hu
  rw [plain_add]
  show (w.alloc ob).cell? _ = _
  rw [World.cell?_alloc_lt w ob _ hg]
  exact h j u hu
theorem RawsRow.more {B B' : Nat} {w : World} {v : Value} {rs : List Rw} (h : RawsRow B w v rs) (hB : B ≤ B') : RawsRow B' w v rs := by
  obtain ⟨xs, h1, h2, h3⟩ := h.ex
  exact ⟨⟨xs, h1, fun i r x a b => Row.more (h2 i r x a b) hB, h3.more hB⟩, h.ok⟩
/-- The same in another order. -/
def TurnAns (rs rs' : List Rw) : Prop := rs' = rs ∨ (rs.length ≤ 70 ∧ ∃ k, k ≤ rs.length ∧ rs' = rs.drop k ++ rs.take k)
set_option maxRecDepth 1000000 in
set_option maxHeartbeats 6400000 in
theorem turned_any {B : Nat} (rs : List Rw) (at_ : Int) (v : Value) (w : World) (hr : RawsRow B w v rs) (hB : B ≤ w.heap.size) (ha : B64 at_) :
    Calls Tryz.prog 29 #[v, .int .i64 at_] w fun e w' => ∃ v' rs', e = .returned v' ∧ RawsRow w'.heap.size w' v' rs' ∧ Below w.heap.size w w' ∧ TurnAns rs rs' := by
  obtain ⟨A, cap, rfl, hcap, hmax⟩ := hr.form
  unfold maxLen at hmax
  have HR := Lib.hid hr
  obtain ⟨n, hn⟩ : ∃ n, rs.length = n := ⟨_, rfl⟩
  have HNN := Lib.hid hn
  rw [hn] at hcap hmax
  by_cases h0 : n = 0
  · subst h0
    rw [hn]
    clear hn hr
    go_enter Tryz.func29, Tryz.ntmps29
    go_wp2
    go_ret
    refine ⟨_, rs, rfl, ?_, Below.refl _ _, .inl rfl⟩
    have := HR.out.more hB
    rw [HNN.out] at this
    exact this
  · have e0 : ((n : Int) == 0) = false := by rw [beq_eq_false_iff_ne]; omega
    by_cases h70 : 70 < n
    · have q1 : (70 : Int) < (n : Int) := by omega
      have q2 : decide ((70 : Int) < (n : Int)) = true := decide_eq_true q1
      rw [hn]
      clear hn hr h0
      go_enter Tryz.func29, Tryz.ntmps29
      go_wp2
      go_ret
      refine ⟨_, rs, rfl, ?_, Below.refl _ _, .inl rfl⟩
      have := HR.out.more hB
      rw [HNN.out] at this
      exact this
    · have q1 : ((70 : Int) < (n : Int)) = False := eq_false (by omega)
      have q2 : decide ((70 : Int) < (n : Int)) = false := decide_eq_false (by omega)
      have hn70 : n ≤ 70 := by omega
      obtain ⟨xs, hxl, hxr, hrow⟩ := hr.ex
      obtain ⟨A', c', e, _, _, hlen, hcell⟩ := hrow
      injection e with e1 e2 e3
      subst e1
      subst e3
      rw [hn] at hcell
      obtain ⟨b, o, rfl, hb, hc⟩ := hcell (by omega)
      rw [hn]
      have PK := Lib.hid (fun W => pick_any at_ n W ha (by omega) (by omega))
      have hk := pickN_lt at_ (n := n) (by omega)
      generalize pickN at_ n = k at PK hk
      have hbw : b < w.heap.size := Nat.lt_of_lt_of_le hb hB
      have hxn : xs.length = rs.length := hxl
      have hz := zcells_split hxn k
      have HXR := Lib.hid hxr
      have HOK := Lib.hid hr.ok
      have lt1 : (zcells (rs.take k) (xs.take k)).length = k * 4 := by rw [zcells_len (by simp [hxn]), List.length_take]; omega
      have ld1 : (zcells (rs.drop k) (xs.drop k)).length = (n - k) * 4 := by rw [zcells_len (by simp [hxn]), List.length_drop, hn]
      have CT := Lib.hid (show ∀ j u, (zcells (rs.take k) (xs.take k))[j]? = some u → w.cell? ⟨b, o + j, none⟩ = some u from fun j u hu => hc j u (by
        have e : ((rs.zip xs).flatMap fun p => rwcells p.1 p.2) = zcells rs xs := rfl
        rw [e, hz, List.getElem?_append_left (List.getElem?_eq_some_iff.1 hu).1]
        exact hu))
      have CD := Lib.hid (show ∀ j u, (zcells (rs.drop k) (xs.drop k))[j]? = some u → w.cell? ⟨b, o + k * 4 + j, none⟩ = some u from fun j u hu => by
        rw [Nat.add_assoc]
        refine hc _ u ?_
        have e : ((rs.zip xs).flatMap fun p => rwcells p.1 p.2) = zcells rs xs := rfl
        rw [e, hz, List.getElem?_append_right (by rw [lt1]; omega), lt1, show k * 4 + j - k * 4 = j by omega]
        exact hu)
      have O1 := Lib.hid (zcells_one (B := B) (w := w) (rs := rs.drop k) (xs := xs.drop k) (fun i r x a b => hxr (k + i) r x (by rwa [List.getElem?_drop] at a) (by rwa [List.getElem?_drop] at b)))
      have O2 := Lib.hid (zcells_one (B := B) (w := w) (rs := rs.take k) (xs := xs.take k) (fun i r x a b => hxr i r x (by rw [List.getElem?_take] at a; split at a; exact a; cases a) (by rw [List.getElem?_take] at b; split at b; exact b; cases b)))
      have LT := Lib.hid lt1
      have LD := Lib.hid ld1
      have HXL := Lib.hid hxl
      obtain ⟨i0, hi0, hz0, hz1, hz2⟩ := info99
      have hkc : k ≤ cap := by omega
      have hkn : ¬ cap = k := by omega
      have hkn' : ¬ k = cap := by omega
      have hkle : (k : Int) ≤ (n : Int) := by omega
      have hkle2 : (k : Int) ≤ (cap : Int) := by omega
      clear hn hr h0 hz lt1 ld1 hc hcell hxr hlen hxn hxl
      go_enter Tryz.func29, Tryz.ntmps29
      go_wp2_with fail
      refine (PK.out _).mono ?_
      rintro e w1 ⟨rfl, rfl⟩
      go_upto_region 4 with fail
      have HO1 := Lib.hid (hown_new (e := 99) (size := 4) (n := 0) (base := w1.heap.size) (cs := []) (hheap_new w1 (.cells #[] 99)) (Nat.le_refl _) rfl (by decide))
      go_region_law (first | (refine hstep_append_own2 rfl (.tmp 19) (.tmp 22) 23 rfl w1.heap.size 99 i0 (.agg #[.int .i64 0, .int .i64 0, .int .i64 0, .slice none 0 0]) 4 48 und23 hi0 hz0 hz1 hz2 rfl (by decide) (.slice (some ⟨w1.heap.size, 0, none⟩) 0 0) 0 [] rfl HO1.out ⟨b, o + k * 4, none⟩ (n - k) (cap - k) (zcells (rs.drop k) (xs.drop k)) (by simp [Act.eval, Act.put]) LD.out (news_one (ob := .cells #[] 99) hbw CD.out) O1.out (by unfold maxLen; omega) (by omega) (by simp) ?_; intro v3 w3 own3 hg3 hm3) | (refine hstep_append_own2 rfl (.tmp 23) (.tmp 26) 23 rfl w1.heap.size 99 i0 (.agg #[.int .i64 0, .int .i64 0, .int .i64 0, .slice none 0 0]) 4 48 und23 hi0 hz0 hz1 hz2 rfl (by decide) v3 (0 + (n - k)) _ (by simp [Act.eval, Act.put]) own3 ⟨b, o, none⟩ k cap (zcells (rs.take k) (xs.take k)) (by simp [Act.eval, Act.put]) LT.out (news_two (ob := .cells #[] 99) hbw CT.out hg3) O2.out (by unfold maxLen; omega) (by omega) (by have := hg3.size; simp at this; omega) ?_; intro v4 w4 own4 hg4 hm4))
      all_goals
        have b3 := below_grown_new (Below.refl w1.heap.size w1) (Nat.le_refl _) hg3 (fun q hq => hown_block_ge HO1.out q hq)
        have B4 := Lib.hid (Below.grown b3 hg4 b3.size (fun q hq => hown_block_ge own3 q hq))
        obtain ⟨a4, c4, rfl⟩ := hown_form own4
        have OW := Lib.hid own4
        clear own3 own4 hg3 hg4 hm3 hm4 b3
        go_wp2
        go_ret
        have hxt : (xs.drop k).length = (rs.drop k).length := by simp [HXL.out]
        have hdt : (rs.drop k ++ rs.take k).length = n := by rw [List.length_append, List.length_drop, List.length_take, HNN.out]; omega
        have e4 : 0 + (n - k) + k = n := by omega
        have ow := OW.out
        rw [e4] at ow ⊢
        refine ⟨_, rs.drop k ++ rs.take k, rfl, ⟨⟨xs.drop k ++ xs.take k, by simp [HXL.out], fun i r x hi hx => ?_, ?_⟩, fun r hr => ?_⟩, B4.out, .inr ⟨by rw [HNN.out]; exact hn70, k, by rw [HNN.out]; omega, rfl⟩⟩
        · have hir : IRow B w1 x r.ifs := by
            by_cases hlt : i < (rs.drop k).length
            · rw [List.getElem?_append_left hlt] at hi
              rw [List.getElem?_append_left (by rw [hxt]; exact hlt)] at hx
              rw [List.getElem?_drop] at hi hx
              exact HXR.out _ r x hi hx
            · rw [List.getElem?_append_right (by omega)] at hi
              rw [List.getElem?_append_right (by rw [hxt]; omega), hxt] at hx
              rw [List.getElem?_take] at hi hx
              split at hi
              · rename_i h1
                rw [if_pos h1] at hx
                exact HXR.out _ r x hi hx
              · cases hi
          exact Row.more (Row.keep hir (fun p hp => B4.out.cell (Nat.lt_of_lt_of_le hp hB))) (Nat.le_trans hB B4.out.size)
        · rw [hdt]
          have e : ((rs.drop k ++ rs.take k).zip (xs.drop k ++ xs.take k)).flatMap (fun p => rwcells p.1 p.2) = zcells (rs.drop k) (xs.drop k) ++ zcells (rs.take k) (xs.take k) := zcells_app hxt.symm
          rw [e]
          exact Row.hof_own ow
        · rcases List.mem_append.1 hr with hr | hr
          · exact HOK.out r (List.mem_of_mem_drop hr)
          · exact HOK.out r (List.mem_of_mem_take hr)
end Go.Proofs.YtmaknddlgppinaaGreatDoor
