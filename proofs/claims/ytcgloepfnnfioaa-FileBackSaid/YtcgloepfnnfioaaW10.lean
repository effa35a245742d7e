/-
  PRUNED by wip/tools/prunem.py: what these texts need of an earlier stage's.
-/
import Derived.Test.YtcgloepfnnfioaaW9
import Derived.Lib.AppendStr
set_option linter.unusedVariables false
set_option linter.unusedSimpArgs false
namespace Go.Proofs.Ytcgloepfnnfioaa
open Go.RowKit

theorem Try.info3 : (Try.prog.info? 3).map (fun i => (i.zero, i.size, i.bytes)) = some (some (.int .i64 0), 1, 8) := by kernel_rfl
def icells (l : List Int) : List Value := l.map fun (r : Int) => .int .i64 r
theorem icells_append (a b : List Int) : icells (a ++ b) = icells a ++ icells b := by simp [icells]
def ints (l : List Nat) : List Int := l.map fun (r : Nat) => (r : Int)
theorem ints_append (a b : List Nat) : ints (a ++ b) = ints a ++ ints b := by simp [ints]
theorem ints_length (a : List Nat) : (ints a).length = a.length := by simp [ints]
def strSize : Value → Nat
  | .string s => s.size
  | _ => 0
theorem next_at (s : ByteArray) (w : World) (l : List UInt8) (r n : Nat) (hp : 0 < s.size) (hl : s.data.toList = l) (h : nextL l = (r, n)) :
    Calls Try.prog 110 #[.string s] w fun e w' => e = .returned (.tuple #[.int .i64 r, .int .i64 n]) ∧ w = w' := by
  have := next_any s w hp
  rw [hl, h] at this
  exact this
set_option maxRecDepth 1000000 in
set_option maxHeartbeats 800000 in
theorem refRunes_any (s : ByteArray) (w : World) (hs : s.size ≤ 1000000) :
    Calls Try.prog 87 #[.string s] w fun e w' => ∃ v, e = .returned (.tuple #[v, .bool (validL (L s))]) ∧ w'.ownsRow w.heap.size 3 1 v (ints (runes (L s))).length (icells (ints (runes (L s)))) ∧ Below w.heap.size w w' := by
  have hlen := runes_length_le (L s)
  rw [← size_L] at hlen
  have HLEN := Lib.hid hlen
  clear hlen
  obtain ⟨i0, hi, hz0, hz1, hz2⟩ := info_parts Try.info3
  go_enter Try.func87, Try.ntmps87
  go_wp2
  go_loopw [0, 4, 5, 6, 7] (fun x v ok _ _ wr => ∃ (t : ByteArray) (b : Bool) (done : List Nat), x = .string t ∧ ok = .bool b ∧ t.size ≤ s.size ∧ wr.ownsRow w.heap.size 3 1 v (ints done).length (icells (ints done)) ∧ done ++ runes (L t) = runes (L s) ∧ (b && validL (L t)) = validL (L s) ∧ Below w.heap.size w wr) (fun x _ _ _ _ _ => strSize x)
  case atStart => exact ⟨s, true, [], rfl, rfl, Nat.le_refl _, World.ownsRow_nil _ _ _ _, by simp, by simp, Below.refl _ _⟩
  case round =>
    obtain ⟨t, b, done, rfl, rfl, hts, hown, hrem, hval, hbel⟩ := hrel
    have HOWN := Lib.hid hown
    have HREM := Lib.hid hrem
    have HVAL := Lib.hid hval
    have hbs := hbel.size
    clear hown hrem hval
    have hdl : done.length ≤ 1000000 := by
      have a := congrArg List.length HREM.out
      have c := HLEN.out
      simp only [List.length_append] at a
      omega
    by_cases hp : 0 < t.size
    · have hne : L t ≠ [] := by
        intro e
        have : t.size = 0 := by rw [size_L, e]; rfl
        omega
      have hwl := dec_width_le _ hne
      have hw1 := (dec_width (L t)).1
      have hrc := runes_cons _ hne
      have hvc := validL_cons _ hne
      have hru := dec_rune (L t)
      obtain ⟨r, n, hd⟩ : ∃ r n, dec (L t) = (r, n) := ⟨_, _, rfl⟩
      rw [hd] at hwl hw1 hrc hvc hru
      rw [← size_L] at hwl
      simp only at hwl hw1 hrc hvc hru
      have HRC := Lib.hid hrc
      have HVC := Lib.hid hvc
      have hex : ∀ n, L (t.extract n t.size) = (L t).drop n := fun n => Lib.extract_to_end t n
      have hexs : ∀ n, (t.extract n t.size).size = t.size - n := fun n => by rw [size_L, hex, List.length_drop, ← size_L]
      have HEX := Lib.hid hex
      have HEXS := Lib.hid hexs
      clear hrc hvc hne hex hexs
      by_cases hbad : bad (r, n) = true
      · have hrn : r = 65533 ∧ n = 1 := by simpa [bad] using hbad
        obtain ⟨rfl, rfl⟩ := hrn
        have hnx : nextL (L t) = (0, 0) := by rw [nextL_of hd]; rfl
        have HN := Lib.hid (next_at t wr (L t) 0 0 hp rfl hnx)
        have HBAD := Lib.hid hbad
        clear hd hnx hbad
        go_wp2_with (first | (go_at_call 110; refine HN.out.mono ?_; rintro e w' ⟨rfl, rfl⟩) | (at_builtin; refine wpList_append_own _ rfl (.tmp 18) (.tmp 20) 23 rfl w.heap.size 3 i0 (.int .i64 0) 1 8 Try.underlying23 hi hz0 hz1 hz2 rfl (by decide) _ _ _ rfl (HOWN.out.alloc _) ⟨wr.heap.size, 0, none⟩ 1 1 [.int .i64 65533] rfl rfl ?c1 ?c2 ?c3 ?c4 ?c5 ?_))
        case c1 => exact new_cells wr [.int .i64 65533] 3
        case c2 => exact int_cells .i64 [65533]
        case c3 => rw [ints_length]; unfold maxLen; omega
        case c4 => rw [ints_length]; omega
        case c5 => simp; omega
        intro v' w1 hown' hgrow _
        have HO' := Lib.hid hown'
        have hB1 : Below w.heap.size w w1 := (hbel.alloc (by omega) _).grown hgrow (by simp; omega) (fun k hk => (HOWN.out.lt k hk).1)
        clear hown' hgrow
        go_wp2
        go_roundw
        case rel =>
          refine ⟨t.extract 1 t.size, false, done ++ [65533], rfl, rfl, by rw [HEXS.out]; omega, ?_, ?_, ?_, hB1⟩
          · have := HO'.out
            rw [ints_append, icells_append, List.length_append]
            exact this
          · rw [List.append_assoc, HEX.out, ← HREM.out, HRC.out]
            rfl
          · rw [← HVAL.out, HVC.out, HBAD.out]
            simp
        case measure => simp only [strSize]; rw [HEXS.out]; omega
      · have hbad' : bad (r, n) = false := by simpa using hbad
        have hnx : nextL (L t) = (r, n) := by
          rw [nextL_of hd, if_neg]
          intro h
          rw [h] at hbad'
          simp [bad] at hbad'
        have HN := Lib.hid (next_at t wr (L t) r n hp rfl hnx)
        have HBAD := Lib.hid hbad'
        have hn0 : ((n : Int) == 0) = false := by rw [beq_eq_false_iff_ne]; omega
        have hn4 : n ≤ 4 := by have := (dec_width (L t)).2; rw [hd] at this; exact this
        clear hd hnx hbad hbad'
        go_wp2_with (first | (go_at_call 110; refine HN.out.mono ?_; rintro e w' ⟨rfl, rfl⟩) | (at_builtin; refine wpList_append_own _ rfl (.tmp 18) (.tmp 20) 23 rfl w.heap.size 3 i0 (.int .i64 0) 1 8 Try.underlying23 hi hz0 hz1 hz2 rfl (by decide) _ _ _ rfl (HOWN.out.alloc _) ⟨wr.heap.size, 0, none⟩ 1 1 [.int .i64 r] rfl rfl ?c1 ?c2 ?c3 ?c4 ?c5 ?_))
        case c1 => exact new_cells wr [.int .i64 (r : Int)] 3
        case c2 => exact int_cells .i64 [(r : Int)]
        case c3 => rw [ints_length]; unfold maxLen; omega
        case c4 => rw [ints_length]; omega
        case c5 => simp; omega
        intro v' w1 hown' hgrow _
        have HO' := Lib.hid hown'
        have hB1 : Below w.heap.size w w1 := (hbel.alloc (by omega) _).grown hgrow (by simp; omega) (fun k hk => (HOWN.out.lt k hk).1)
        clear hown' hgrow
        go_wp2
        go_roundw
        case rel =>
          refine ⟨t.extract n t.size, b, done ++ [r], rfl, rfl, by rw [HEXS.out]; omega, ?_, ?_, ?_, hB1⟩
          · have := HO'.out
            rw [ints_append, icells_append, List.length_append]
            exact this
          · rw [List.append_assoc, HEX.out, ← HREM.out, HRC.out]
            rfl
          · rw [← HVAL.out, HVC.out, HBAD.out, HEX.out]
            simp
        case measure => simp only [strSize]; rw [HEXS.out]; omega
    · have hnil : L t = [] := List.eq_nil_of_length_eq_zero (by rw [← size_L]; omega)
      have hdone : done = runes (L s) := by
        have := HREM.out
        rw [hnil, runes_nil, List.append_nil] at this
        exact this
      have hb : b = validL (L s) := by
        have := HVAL.out
        rw [hnil, validL_nil, Bool.and_true] at this
        exact this
      have HD := Lib.hid hdone
      have HB := Lib.hid hb
      clear hnil hdone hb
      go_wp2
      go_ret2
      refine ⟨u4, ?_, ?_, hbel⟩
      · rw [← HB.out]; rfl
      · rw [← HD.out]; exact HOWN.out
/-- The slice value v reads as the ints zs. -/
def SlI (w : World) (v : Value) (zs : List Int) : Prop :=
  (v = .slice none 0 0 ∧ zs = []) ∨ ∃ b off cap, v = .slice (some ⟨b, off, none⟩) zs.length cap ∧ ∀ j, j < zs.length → w.cell? ⟨b, off + j, none⟩ = some (.int .i64 (zs.getD j 0))
theorem SlI_own {w : World} {base : Nat} {v : Value} {l : List Int} (h : w.ownsRow base 3 1 v l.length (icells l)) : SlI w v l := by
  rcases h.2 with ⟨rfl, hn⟩ | ⟨g, cap, cur, rfl, hb, hgg, rest⟩
  · exact .inl ⟨rfl, List.eq_nil_of_length_eq_zero hn⟩
  · refine .inr ⟨g, 0, cap, rfl, ?_⟩
    intro j hj
    have := h.cells (g := g) rfl j (.int .i64 l[j]) (by simp [icells, hj])
    have e : (({ block := g, off := 0 } : Addr).add j) = ⟨g, 0 + j, none⟩ := by simp [Addr.add]; intro h0; exact h0.symm
    rw [e] at this
    rw [this]
    simp [hj]
theorem SlI.keep {w w' : World} {v : Value} {zs : List Int} (h : SlI w v zs) (hb : Below w.heap.size w w') : SlI w' v zs := by
  rcases h with h | ⟨b, off, cap, rfl, hc⟩
  · exact .inl h
  · exact .inr ⟨b, off, cap, rfl, fun j hj => by
      have e := hc j hj
      have hlt := World.block_lt_of_cell? w _ e
      rw [← e]
      exact hb.cell (p := ⟨b, off + j, none⟩) hlt⟩
theorem strV_size (l : List UInt8) : (⟨l.toArray⟩ : ByteArray).size = l.length := by simp [ByteArray.size]
end Go.Proofs.Ytcgloepfnnfioaa
