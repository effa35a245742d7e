/-
  WALK of references: which values are references.
-/
import Derived.Test.YtgepgbpjdjbelaaRi
set_option linter.unusedVariables false
set_option linter.unusedSimpArgs false
namespace Go.Proofs.Ytgepgbpjdjbelaa
open Go.RowKit

/-- A value: its kind, its type's dimensions and name, its number. -/
abbrev KQ := Int × Int × ByteArray × Int
def kcells (q : KQ) : List Value := [.int .i64 q.1, .int .i64 q.2.1, .string q.2.2.1, .int .i64 q.2.2.2]
def isRefQ (q : KQ) : Bool := decide (2 ≤ q.1 ∧ q.1 ≤ 5)
def KRow (B : Nat) (w : World) (v : Value) (l : List KQ) : Prop := Row B 4 w v l.length (l.flatMap kcells)
theorem KRow.form {B : Nat} {w : World} {v : Value} {l : List KQ} (h : KRow B w v l) : ∃ A c, v = .slice A l.length c ∧ l.length ≤ c ∧ l.length ≤ maxLen := by
  obtain ⟨A, c, e, h1, h2, _⟩ := h
  exact ⟨A, c, e, h1, h2⟩
theorem KRow.below {B B' : Nat} {w w' : World} {v : Value} {l : List KQ} (h : KRow B w v l) (hb : Below B' w w') (hB : B ≤ B') : KRow B w' v l := Row.keep h fun p hp => hb.cell (p := p) (by omega)
theorem KRow.at_ {B : Nat} {w : World} {A : Option Addr} {n cap : Nat} {l : List KQ} {k : Nat} {x : KQ} (h : KRow B w (.slice A n cap) l) (hk : l[k]? = some x) :
    ∃ b o, A = some ⟨b, o, none⟩ ∧ b < B ∧ w.cell? ⟨b, o + k * 4, none⟩ = some (.int .i64 x.1) ∧ w.cell? ⟨b, o + k * 4 + 1, none⟩ = some (.int .i64 x.2.1) ∧ w.cell? ⟨b, o + k * 4 + 2, none⟩ = some (.string x.2.2.1) ∧ w.cell? ⟨b, o + k * 4 + 3, none⟩ = some (.int .i64 x.2.2.2) := by
  obtain ⟨A', cap', e, _, _, _, h2⟩ := h
  injection e with e1 e2 e3
  subst e1
  have hl : k < l.length := (List.getElem?_eq_some_iff.1 hk).1
  obtain ⟨b, o, e, hb, hc⟩ := h2 (by omega)
  have key : ∀ j u, j < 4 → (kcells x)[j]? = some u → w.cell? ⟨b, o + k * 4 + j, none⟩ = some u := fun j u hj hu => by
    rw [Nat.add_assoc]
    exact hc _ _ ((flat_at kcells 4 (fun _ => rfl) _ k _ hk j hj).trans hu)
  exact ⟨b, o, e, hb, key 0 _ (by omega) rfl, key 1 _ (by omega) rfl, key 2 _ (by omega) rfl, key 3 _ (by omega) rfl⟩
theorem make_bools (w : World) (n : Nat) (hn : n ≤ 4000000000000) :
    ∃ w', (Instr.makeSlice 23 (.int .i64 (n : Int)) (.int .i64 (n : Int))).run Try.prog w = .ok (.slice (some ⟨w.heap.size, 0, none⟩) n n) w' ∧ w'.heap[w.heap.size]? = some (.cells (bcells (List.replicate n false)).toArray 4 (0, 0)) ∧ Below w.heap.size w w' := by
  obtain ⟨i0, hi, hz0, hz1, hz2⟩ := info_parts info4
  obtain ⟨w', hr, hown, hg⟩ := run_make_full (P := Try.prog) w w.heap.size 23 4 i0 (.bool false) 1 und23 hi hz0 hz1 .i64 .i64 n (by rw [hz2]; omega) (by unfold maxLen; omega) (Nat.le_refl _)
  rw [Nat.mul_one] at hown
  rcases hown.2 with ⟨h', _⟩ | ⟨g, cap, cur, h', _, hgg, _, _, hcs, htake⟩
  · simp at h'
  · simp only [Value.slice.injEq, Option.some.injEq, Addr.mk.injEq, and_true, true_and] at h'
    obtain ⟨rfl, rfl⟩ := h'
    have e1 : (madeCells (Value.bool false).cells n).toList = bcells (List.replicate n false) := by
      rw [show (Value.bool false).cells = #[Value.bool false] from rfl, toList_madeCells_one]
      simp [bcells]
    have e2 : cur.toList.take (n * 1) = bcells (List.replicate n false) := by rw [htake]; exact e1
    have e3 : cur.toList = bcells (List.replicate n false) := by rw [← e2, List.take_of_length_le (by rw [Array.length_toList, hcs]; exact Nat.le_refl _)]
    have e4 : cur = (bcells (List.replicate n false)).toArray := by rw [← e3]
    exact ⟨w', hr, by rw [← e4]; exact hgg, (Below.refl _ _).grown hg (Nat.le_refl _) (fun k hk => by cases hk)⟩
theorem refs_step {ks : List KQ} {i n : Nat} {q : KQ} (hq : ks[i]? = some q) (hi : i < n) : (((ks.take i).map isRefQ ++ List.replicate (n - i) false).set i (isRefQ q)) = (ks.take (i + 1)).map isRefQ ++ List.replicate (n - (i + 1)) false := by
  obtain ⟨hk, rfl⟩ := List.getElem?_eq_some_iff.1 hq
  have hl : ((ks.take i).map isRefQ).length = i := by rw [List.length_map, List.length_take]; omega
  rw [List.set_append_right _ _ (by omega), hl, Nat.sub_self]
  obtain ⟨m, hm⟩ : ∃ m, n - i = m + 1 := ⟨n - i - 1, by omega⟩
  rw [hm, show n - (i + 1) = m by omega, List.replicate_succ, List.set_cons_zero, List.take_succ_eq_append_getElem hk, List.map_append]
  simp
set_option maxRecDepth 1000000 in
set_option maxHeartbeats 6400000 in
theorem references_any (ks : List KQ) (v : Value) (B : Nat) (w : World) (hr : KRow B w v ks) (hB : B ≤ w.heap.size) (hl : ks.length ≤ 4000000000000) :
    Calls Try.prog 20 #[v] w fun e w' => ∃ v', e = .returned v' ∧ OwnL w' w.heap.size v' (ks.map isRefQ) ∧ Below w.heap.size w w' := by
  obtain ⟨A, c, rfl, hlc, hlm⟩ := hr.form
  have HR := Lib.hid hr
  obtain ⟨n, hn⟩ : ∃ n, ks.length = n := ⟨_, rfl⟩
  have HN := Lib.hid hn
  rw [hn] at hlc hlm HR hl ⊢
  have hlI : (n : Int) ≤ 9223372036854775807 := by omega
  obtain ⟨w1, hmk, hcs, hb1⟩ := make_bools w n hl
  obtain ⟨ob, hob⟩ : ∃ b, w.heap.size = b := ⟨_, rfl⟩
  have HC := Lib.hid (show w1.heap[ob]? = some (.cells (bcells (List.replicate n false)).toArray 4 (0, 0)) by rw [← hob]; exact hcs)
  have HB := Lib.hid hb1
  have hBo : B ≤ ob := by omega
  have HOB := Lib.hid hob
  clear hr hn hcs hb1 hB
  go_enter Try.func20, Try.ntmps20
  go_wp2
  go_loopw [11] (fun iv wx => ∃ i : Nat, i ≤ n ∧ iv = .int .i64 (i : Int) ∧ wx.heap[ob]? = some (.cells (bcells ((ks.take i).map isRefQ ++ List.replicate (n - i) false)).toArray 4 (0, 0)) ∧ Below ob w wx) (fun iv _ => n - (intOf iv).toNat)
  case atStart => exact ⟨0, Nat.zero_le _, rfl, by rw [List.take_zero]; simpa using HC.out, by rw [← HOB.out]; exact HB.out⟩
  case round =>
    obtain ⟨i, hin, rfl, hc, hb⟩ := hrel
    have HC2 := Lib.hid hc
    have HB2 := Lib.hid hb
    have hsz := hb.size
    have hobw := lt_of_block hc
    clear hc hb HC HB hmk
    by_cases hlt : i < n
    · obtain ⟨q, hq⟩ : ∃ q, ks[i]? = some q := ⟨_, List.getElem?_eq_getElem (by rw [HN.out]; exact hlt)⟩
      obtain ⟨b, o, rfl, hbB, x0, x1, x2, x3⟩ := (HR.out.below HB2.out hBo).at_ hq
      have hbw : b < wr.heap.size := by omega
      have HQ := Lib.hid hq
      have hi2 : (i : Int) < (n : Int) := by omega
      have HK := Lib.hid (fun W => isRef_in q.1 q.2.2.2 q.2.1 q.2.2.1 (isRefQ q) rfl W)
      obtain ⟨r, hrr⟩ : ∃ r, isRefQ q = r := ⟨_, rfl⟩
      rw [hrr] at HK
      have HRR := Lib.hid hrr
      clear hq hrr
      go_wp2_with fail
      refine (HK.out _).mono ?_
      rintro e w5 ⟨rfl, hb5⟩
      have hal : Below wr.heap.size wr w5 := Below.link' ((Below.refl _ wr).alloc (Nat.le_refl _) _) hb5
      have HC5 := Lib.hid ((hal.block _ hobw).trans HC2.out)
      have HB5 := Lib.hid (HB2.out.trans (hal.mono (Nat.le_of_lt hobw)))
      have fr := free_of HC5.out i
      have hlb : i < (bcells ((ks.take i).map isRefQ ++ List.replicate (n - i) false)).length := by
        rw [bcells_len, List.length_append, List.length_map, List.length_take, List.length_replicate, HN.out]
        omega
      obtain ⟨old, hold⟩ : ∃ old, (bcells ((ks.take i).map isRefQ ++ List.replicate (n - i) false))[i]? = some old := ⟨_, List.getElem?_eq_getElem hlb⟩
      have cc : w5.cell? ⟨ob, i, none⟩ = some old := by rw [cells_of HC5.out, List.getElem?_toArray]; exact hold
      have hob5 := lt_of_block HC5.out
      clear hold
      have HLB := Lib.hid hlb
      clear hb5 hal hlb
      go_wp2
      go_roundw
      case rel =>
        refine ⟨i + 1, by omega, by go_num, ?_, HB5.out.setCell (p := ⟨ob, i, none⟩) (Nat.le_refl _) _⟩
        rw [heap_set_eq HC5.out (by simpa using HLB.out), bcells_set, ← HRR.out, refs_step HQ.out hlt]
      case measure => simp [intOf]; omega
    · obtain rfl : i = n := by omega
      have e1 : ks.take i = ks := List.take_of_length_le (by rw [HN.out]; exact Nat.le_refl _)
      have h2 := HC2.out
      rw [e1, Nat.sub_self, List.replicate_zero, List.append_nil] at h2
      have HC3 := Lib.hid h2
      clear e1 h2
      go_wp2
      go_ret
      refine ⟨_, rfl, ?_, by rw [HOB.out]; exact HB2.out⟩
      unfold OwnL
      rw [List.length_map, HN.out, HOB.out]
      exact own_new (size := 1) HC3.out (Nat.le_refl _) (by rw [bcells_len, List.length_map, HN.out, Nat.mul_one]) (by unfold maxLen; omega)
end Go.Proofs.Ytgepgbpjdjbelaa
