/-
  CUT and joined from the texts of this seat: W10 W11 W12 Dp D1 D2 Hz
-/
import Derived.Test.YtmaknddlgppinaaGreatDoorZ11
import Derived.Test.YtmaknddlgppinaaGreatDoorRows
import Derived.Test.YtmaknddlgppinaaGreatDoorZ09
import Derived.Lib.AppendStr
import Derived.Deep.DeepCutAuto
import Derived.Deep.CutBlock
import Derived.Deep.LoopGhost
import Derived.Lib.Bytealg
import Derived.Shelf.Small.Strs
import Derived.Shelf.Strings.Prefix
set_option linter.unusedVariables false
set_option linter.unusedSimpArgs false
namespace Go.Proofs.YtmaknddlgppinaaGreatDoor
open Go.RowKit
theorem Tryz.info3 : (Tryz.prog.info? 3).map (fun i => (i.zero, i.size, i.bytes)) = some (some (.int .i64 0), 1, 8) := by kernel_rfl
def icells (l : List Int) : List Value := l.map fun (r : Int) => .int .i64 r
theorem icells_append (a b : List Int) : icells (a ++ b) = icells a ++ icells b := by simp [icells]
def ints (l : List Nat) : List Int := l.map fun (r : Nat) => (r : Int)
theorem ints_append (a b : List Nat) : ints (a ++ b) = ints a ++ ints b := by simp [ints]
theorem ints_length (a : List Nat) : (ints a).length = a.length := by simp [ints]
def strSize : Value → Nat
 | .string s => s.size
 | _ => 0
theorem next_at (s : ByteArray) (w : World) (l : List UInt8) (r n : Nat) (hp : 0 < s.size) (hl : s.data.toList = l) (h : nextL l = (r, n)) :
  Calls Tryz.prog 147 #[.string s] w fun e w' => e = .returned (.tuple #[.int .i64 r, .int .i64 n]) ∧ w = w' := by
 have := next_any s w hp
 rw [hl, h] at this
 exact this
set_option maxRecDepth 1000000 in
set_option maxHeartbeats 800000 in
theorem refRunes_any (s : ByteArray) (w : World) (hs : s.size ≤ 1000000) :
  Calls Tryz.prog 133 #[.string s] w fun e w' => ∃ v, e = .returned (.tuple #[v, .bool (validL (L s))]) ∧ w'.ownsRow w.heap.size 3 1 v (ints (runes (L s))).length (icells (ints (runes (L s)))) ∧ Below w.heap.size w w' := by
 have hlen := runes_length_le (L s)
 rw [← size_L] at hlen
 have HLEN := Lib.hid hlen
 clear hlen
 obtain ⟨i0, hi, hz0, hz1, hz2⟩ := info_parts Tryz.info3
 go_enter Tryz.func133, Tryz.ntmps133
 go_wp2
 go_loopw [0, 4, 5, 6, 7] (fun x v ok _ _ wr => ∃ (t : ByteArray) (b : Bool) (done : List Nat), x = .string t ∧ ok = .bool b ∧ t.size ≤ s.size ∧ wr.ownsRow w.heap.size 3 1 v (ints done).length (icells (ints done)) ∧ done ++ runes (L t) = runes (L s) ∧ (b && validL (L t)) = validL (L s) ∧ Below w.heap.size w wr) (fun x _ _ _ _ _ => strSize x)
 case atStart => exact ⟨s, true, [], rfl, rfl, Nat.le_refl _, World.ownsRow_nil _ _ _ _, by simp, by simp, Below.refl _ _⟩
 case round =>
  obtain ⟨t, b, done, rfl, rfl, hts, hown, hrem, hval, hbel⟩ := hrel
  have HOWN := Lib.hid hown
  have HREM := Lib.hid hrem
  have HVAL := Lib.hid hval
  have hbs := hbel.size
  clear hown hrem hval
  have hdl : done.length ≤ 1000000 := by
   have a := congrArg List.length HREM.out
   have c := HLEN.out
   simp only [List.length_append] at a
   omega
  by_cases hp : 0 < t.size
  ·have hne : L t ≠ [] := by
    intro e
    have : t.size = 0 := by rw [size_L, e]; rfl
    omega
   have hwl := dec_width_le _ hne
   have hw1 := (dec_width (L t)).1
   have hrc := runes_cons _ hne
   have hvc := validL_cons _ hne
   have hru := dec_rune (L t)
   obtain ⟨r, n, hd⟩ : ∃ r n, dec (L t) = (r, n) := ⟨_, _, rfl⟩
   rw [hd] at hwl hw1 hrc hvc hru
   rw [← size_L] at hwl
   simp only at hwl hw1 hrc hvc hru
   have HRC := Lib.hid hrc
   have HVC := Lib.hid hvc
   have hex : ∀ n, L (t.extract n t.size) = (L t).drop n := fun n => Lib.extract_to_end t n
   have hexs : ∀ n, (t.extract n t.size).size = t.size - n := fun n => by rw [size_L, hex, List.length_drop, ← size_L]
   have HEX := Lib.hid hex
   have HEXS := Lib.hid hexs
   clear hrc hvc hne hex hexs
   by_cases hbad : bad (r, n) = true
   ·have hrn : r = 65533 ∧ n = 1 := by simpa [bad] using hbad
    obtain ⟨rfl, rfl⟩ := hrn
    have hnx : nextL (L t) = (0, 0) := by rw [nextL_of hd]; rfl
    have HN := Lib.hid (next_at t wr (L t) 0 0 hp rfl hnx)
    have HBAD := Lib.hid hbad
    clear hd hnx hbad
    go_wp2_with (first | (go_at_call 147; refine HN.out.mono ?_; rintro e w' ⟨rfl, rfl⟩) | (at_builtin; refine wpList_append_own _ rfl (.tmp 18) (.tmp 20) 29 rfl w.heap.size 3 i0 (.int .i64 0) 1 8 Tryz.underlying29 hi hz0 hz1 hz2 rfl (by decide) _ _ _ rfl (HOWN.out.alloc _) ⟨wr.heap.size, 0, none⟩ 1 1 [.int .i64 65533] rfl rfl ?c1 ?c2 ?c3 ?c4 ?c5 ?_))
    case c1 => exact new_cells wr [.int .i64 65533] 3
    case c2 => exact int_cells .i64 [65533]
    case c3 => rw [ints_length]; unfold maxLen; omega
    case c4 => rw [ints_length]; omega
    case c5 => simp; omega
    intro v' w1 hown' hgrow _
    have HO' := Lib.hid hown'
    have hB1 : Below w.heap.size w w1 := (hbel.alloc (by omega) _).grown hgrow (by simp; omega) (fun k hk => (HOWN.out.lt k hk).1)
    clear hown' hgrow
    go_wp2
    go_roundw
    case rel =>
     refine ⟨t.extract 1 t.size, false, done ++ [65533], rfl, rfl, by rw [HEXS.out]; omega, ?_, ?_, ?_, hB1⟩
     ·have := HO'.out
      rw [ints_append, icells_append, List.length_append]
      exact this
     ·rw [List.append_assoc, HEX.out, ← HREM.out, HRC.out]
      rfl
     ·rw [← HVAL.out, HVC.out, HBAD.out]
      simp
    case measure => simp only [strSize]; rw [HEXS.out]; omega
   ·have hbad' : bad (r, n) = false := by simpa using hbad
    have hnx : nextL (L t) = (r, n) := by
     rw [nextL_of hd, if_neg]
     intro h
     rw [h] at hbad'
     simp [bad] at hbad'
    have HN := Lib.hid (next_at t wr (L t) r n hp rfl hnx)
    have HBAD := Lib.hid hbad'
    have hn0 : ((n : Int) == 0) = false := by rw [beq_eq_false_iff_ne]; omega
    have hn4 : n ≤ 4 := by have := (dec_width (L t)).2; rw [hd] at this; exact this
    clear hd hnx hbad hbad'
    go_wp2_with (first | (go_at_call 147; refine HN.out.mono ?_; rintro e w' ⟨rfl, rfl⟩) | (at_builtin; refine wpList_append_own _ rfl (.tmp 18) (.tmp 20) 29 rfl w.heap.size 3 i0 (.int .i64 0) 1 8 Tryz.underlying29 hi hz0 hz1 hz2 rfl (by decide) _ _ _ rfl (HOWN.out.alloc _) ⟨wr.heap.size, 0, none⟩ 1 1 [.int .i64 r] rfl rfl ?c1 ?c2 ?c3 ?c4 ?c5 ?_))
    case c1 => exact new_cells wr [.int .i64 (r : Int)] 3
    case c2 => exact int_cells .i64 [(r : Int)]
    case c3 => rw [ints_length]; unfold maxLen; omega
    case c4 => rw [ints_length]; omega
    case c5 => simp; omega
    intro v' w1 hown' hgrow _
    have HO' := Lib.hid hown'
    have hB1 : Below w.heap.size w w1 := (hbel.alloc (by omega) _).grown hgrow (by simp; omega) (fun k hk => (HOWN.out.lt k hk).1)
    clear hown' hgrow
    go_wp2
    go_roundw
    case rel =>
     refine ⟨t.extract n t.size, b, done ++ [r], rfl, rfl, by rw [HEXS.out]; omega, ?_, ?_, ?_, hB1⟩
     ·have := HO'.out
      rw [ints_append, icells_append, List.length_append]
      exact this
     ·rw [List.append_assoc, HEX.out, ← HREM.out, HRC.out]
      rfl
     ·rw [← HVAL.out, HVC.out, HBAD.out, HEX.out]
      simp
    case measure => simp only [strSize]; rw [HEXS.out]; omega
  ·have hnil : L t = [] := List.eq_nil_of_length_eq_zero (by rw [← size_L]; omega)
   have hdone : done = runes (L s) := by
    have := HREM.out
    rw [hnil, runes_nil, List.append_nil] at this
    exact this
   have hb : b = validL (L s) := by
    have := HVAL.out
    rw [hnil, validL_nil, Bool.and_true] at this
    exact this
   have HD := Lib.hid hdone
   have HB := Lib.hid hb
   clear hnil hdone hb
   go_wp2
   go_ret2
   refine ⟨u4, ?_, ?_, hbel⟩
   ·rw [← HB.out]; rfl
   ·rw [← HD.out]; exact HOWN.out
/-- The slice value v reads as the ints zs. -/
def SlI (w : World) (v : Value) (zs : List Int) : Prop :=
 (v = .slice none 0 0 ∧ zs = []) ∨ ∃ b off cap, v = .slice (some ⟨b, off, none⟩) zs.length cap ∧ ∀ j, j < zs.length → w.cell? ⟨b, off + j, none⟩ = some (.int .i64 (zs.getD j 0))
theorem SlI_own {w : World} {base : Nat} {v : Value} {l : List Int} (h : w.ownsRow base 3 1 v l.length (icells l)) : SlI w v l := by
 rcases h.2 with ⟨rfl, hn⟩ | ⟨g, cap, cur, rfl, hb, hgg, rest⟩
 ·exact .inl ⟨rfl, List.eq_nil_of_length_eq_zero hn⟩
 ·refine .inr ⟨g, 0, cap, rfl, ?_⟩
  intro j hj
  have := h.cells (g := g) rfl j (.int .i64 l[j]) (by simp [icells, hj])
  have e : (({ block := g, off := 0 } : Addr).add j) = ⟨g, 0 + j, none⟩ := by simp [Addr.add]; intro h0; exact h0.symm
  rw [e] at this
  rw [this]
  simp [hj]
theorem SlI.keep {w w' : World} {v : Value} {zs : List Int} (h : SlI w v zs) (hb : Below w.heap.size w w') : SlI w' v zs := by
 rcases h with h | ⟨b, off, cap, rfl, hc⟩
 ·exact .inl h
 ·exact .inr ⟨b, off, cap, rfl, fun j hj => by
   have e := hc j hj
   have hlt := World.block_lt_of_cell? w _ e
   rw [← e]
   exact hb.cell (p := ⟨b, off + j, none⟩) hlt⟩
theorem strV_size (l : List UInt8) : (⟨l.toArray⟩ : ByteArray).size = l.length := by simp [ByteArray.size]
theorem refRunes_at (b : Bool) (s : ByteArray) (w : World) (hs : s.size ≤ 1000000) (h : validL (L s) = b) :
  Calls Tryz.prog 133 #[.string s] w fun e w' => ∃ v, e = .returned (.tuple #[v, .bool b]) ∧ w'.ownsRow w.heap.size 3 1 v (ints (runes (L s))).length (icells (ints (runes (L s)))) ∧ Below w.heap.size w w' := by
 have := refRunes_any s w hs
 rwa [h] at this
theorem enc_take (rs : List Nat) (k : Nat) : ((rs.take k).flatMap mb).length ≤ 6 * k := by
 have key : ∀ l : List Nat, (l.flatMap mb).length ≤ 6 * l.length := by
  intro l
  induction l with
  | nil => simp
  | cons r rs ih =>
   have := (mb_length r).2
   simp only [List.flatMap_cons, List.length_append, List.length_cons]
   omega
 have := key (rs.take k)
 have h2 : (rs.take k).length ≤ k := List.length_take_le _ _
 omega
theorem take_nextN {rs : List Nat} {k r : Nat} (h : k < rs.length) (hr : rs.getD k 0 = r) : rs.take (k + 1) = rs.take k ++ [r] := by
 rw [List.take_succ_eq_append_getElem h]
 congr 2
 rw [← hr]
 simp [List.getD, h]
theorem SlI_some {w : World} {v : Value} {zs : List Int} (h : SlI w v zs) (hne : 0 < zs.length) : ∃ b off cap, v = .slice (some ⟨b, off, none⟩) zs.length cap ∧ ∀ j, j < zs.length → w.cell? ⟨b, off + j, none⟩ = some (.int .i64 (zs.getD j 0)) := by
 rcases h with ⟨_, rfl⟩ | h
 ·simp at hne
 ·exact h
set_option maxRecDepth 1000000 in
set_option maxHeartbeats 1600000 in
theorem refEncode_any (s : ByteArray) (w : World) (hs : s.size ≤ 1000000) :
  Calls Tryz.prog 130 #[.string s] w fun e w' => e = .returned (.tuple #[strV (encA (L s)), .int .i64 (encE (L s))]) ∧ Below w.heap.size w w' := by
 have hrl := runes_length_le (L s)
 rw [← size_L] at hrl
 by_cases hv : validL (L s) = true
 ·have HR := Lib.hid (refRunes_at true s w hs hv)
  have HA := Lib.hid (show encA (L s) = if (encL (L s)).length ≤ 65535 then encL (L s) else [] by unfold encA; simp [hv])
  have HE := Lib.hid (show encE (L s) = if (encL (L s)).length ≤ 65535 then 0 else 2 by unfold encE; rw [if_pos hv])
  have HENC := Lib.hid (show encL (L s) = (runes (L s)).flatMap mb from rfl)
  have HSC := Lib.hid (runes_scal (L s))
  clear hv
  obtain ⟨i0, hi, hz0, hz1, hz2⟩ := info_parts Tryz.info5
  generalize encL (L s) = enc at *
  generalize runes (L s) = rs at *
  have hrb : rs.length ≤ 1000000 := by omega
  clear hrl
  go_enter Tryz.func130, Tryz.ntmps130
  go_wp2_with fail
  refine HR.out.mono ?_
  rintro e w1 ⟨lv, rfl, hown1, hb1⟩
  have hsl := SlI_own hown1
  have hs1 := hb1.size
  clear hown1
  have hcase : rs = [] ∨ 0 < rs.length := by cases rs <;> simp
  rcases hcase with rfl | hpos
  ·have hlv : lv = .slice none 0 0 ∨ ∃ a c, lv = .slice (some a) 0 c := by
    rcases hsl with ⟨h, _⟩ | ⟨b, off, cap, h, _⟩
    ·exact .inl h
    ·exact .inr ⟨_, cap, h⟩
   have hcv : (convert 166 9 (.slice none 0 0)).run Tryz.prog w1 = .ok (strV []) w1 := string_owned (base := w1.heap.size) (World.ownsRow_nil _ _ _ _)
   have hz : enc = [] := HENC.out
   have HZ := Lib.hid hz
   clear hsl hz
   rcases hlv with rfl | ⟨a, c, rfl⟩
   all_goals
    go_wp2
    refine wp_loop_rounds 1 ?_
    rw [rounds_succ]
    go_wp2
    go_ret2
    rw [HA.out, HE.out, HZ.out]
    exact ⟨rfl, hb1⟩
  ·obtain ⟨b, off, cap, rfl, hc⟩ := SlI_some hsl (by rw [ints_length]; exact hpos)
   rw [ints_length] at hc
   have HC := Lib.hid hc
   have hlen : (ints rs).length = rs.length := ints_length rs
   rw [hlen]
   clear hsl hc hlen
   go_wp2
   go_loopw [6, 7] (fun bv i wr => ∃ k : Nat, k ≤ rs.length ∧ i = .int .i64 k ∧ wr.ownsRow w1.heap.size 5 1 bv ((rs.take k).flatMap mb).length (bcells ((rs.take k).flatMap mb)) ∧ Below w1.heap.size w1 wr) (fun _ i _ => rs.length - (intOf i).toNat)
   case atStart => exact ⟨0, Nat.zero_le _, rfl, World.ownsRow_nil _ _ _ _, Below.refl _ _⟩
   case round =>
    obtain ⟨k, hk, rfl, hown, hbel⟩ := hrel
    have HOWN := Lib.hid hown
    have hbs := hbel.size
    clear hown
    by_cases hlt : k < rs.length
    ·have hcell0 := HC.out k hlt
     have hblt := World.block_lt_of_cell? w1 _ hcell0
     obtain ⟨r, hrk⟩ : ∃ r, rs.getD k 0 = r := ⟨_, rfl⟩
     have hik : (ints rs).getD k 0 = (r : Int) := by
      rw [← hrk]
      simp [ints, List.getD, hlt]
     have hcell : wr.cell? ⟨b, off + k, none⟩ = some (.int .i64 (r : Int)) := by
      rw [← hik, ← hcell0]
      exact hbel.cell (p := ⟨b, off + k, none⟩) hblt
     have HTK := Lib.hid (take_nextN hlt hrk)
     have hsc : Scal r := HSC.out r (by
      rw [← hrk]
      simp only [List.getD, List.getElem?_eq_getElem hlt, Option.getD_some]
      exact List.getElem_mem hlt)
     have hr2 : r ≤ 1114111 := by unfold Scal at hsc; omega
     have HU := fun W => Lib.hid (show Calls Tryz.prog 146 #[.int .i64 (r : Int)] W fun e w' => e = .returned (strV (mb r)) ∧ Below W.heap.size W w' from Bytes_any (r : Int) (by omega) (by omega) W)
     have hul := (mb_length r).2
     have hfl := enc_take rs k
     generalize hgl : mb r = ul at *
     generalize hgf : (rs.take k).flatMap mb = fl at *
     have HGL := Lib.hid hgl
     have HGF := Lib.hid hgf
     have hflb : fl.length ≤ 6000000 := by omega
     clear hsc hgl hgf hfl hrk hik hcell0 hblt
     go_wp2_with fail
     refine (HU _).out.mono ?_
     rintro e w2 ⟨rfl, hb2⟩
     have hbs2 := hb2.size
     have HO2 := Lib.hid (show w2.ownsRow w1.heap.size 5 1 u6 fl.length (bcells fl) from HOWN.out.kept (row := none) ⟨hb2.os, hb2.tape, hb2.output, hb2.size, fun k hk _ => hb2.block k hk⟩ (by cases u6.ownBlock <;> simp))
     have hbel2 : Below w1.heap.size w1 w2 := hbel.trans (hb2.mono hbs)
     clear hb2
     go_wp2_with (at_builtin; refine Lib.wpList_append_own_string _ rfl (.tmp 21) (.tmp 26) 166 9 rfl w1.heap.size 5 i0 Tryz.underlying166 Tryz.underlying9 hi hz0 hz1 hz2 _ _ _ rfl HO2.out ⟨ul.toArray⟩ rfl ?_ ?_ ?_ ?_)
     ·rw [strV_size]; unfold maxLen; omega
     ·rw [strV_size]; omega
     ·omega
     intro v' w3 hown3 hg3 _
     have HO3 := Lib.hid hown3
     have hbel3 : Below w1.heap.size w1 w3 := hbel2.grown hg3 (by omega) (fun k hk => (HO2.out.lt k hk).1)
     clear hown3 hg3
     go_wp2
     go_roundw
     case rel =>
      refine ⟨k + 1, by omega, by go_num, ?_, hbel3⟩
      have := HO3.out
      rw [HTK.out, List.flatMap_append, HGF.out, List.flatMap_cons, List.flatMap_nil, HGL.out, List.append_nil, bcells_append, List.length_append]
      exact this
     case measure => simp [intOf]; omega
    ·have hO := HOWN.out
     rw [List.take_of_length_le (by omega), ← HENC.out] at hO
     have hel : enc.length ≤ 6000000 := by
      have h1 := enc_take rs rs.length
      rw [List.take_length, ← HENC.out] at h1
      omega
     have hcv := string_owned hO
     have hB : Below w.heap.size w wr := hb1.trans (hbel.mono hs1)
     have hlenv : u6 = .slice none 0 0 ∧ enc = [] ∨ ∃ g c, u6 = .slice (some ⟨g, 0, none⟩) enc.length c := by
      rcases hO.2 with ⟨h, hn⟩ | ⟨g, c, cur, h, _⟩
      ·exact .inl ⟨h, List.eq_nil_of_length_eq_zero hn⟩
      ·exact .inr ⟨g, c, h⟩
     clear hO
     by_cases h65 : enc.length ≤ 65535
     ·have HA2 := Lib.hid (show encA (L s) = enc by rw [HA.out, if_pos h65])
      have HE2 := Lib.hid (show encE (L s) = 0 by rw [HE.out, if_pos h65])
      rcases hlenv with ⟨rfl, rfl⟩ | ⟨g, c, rfl⟩
      all_goals
       go_wp2
       go_ret2
       rw [HA2.out, HE2.out]
       exact ⟨rfl, hB⟩
     ·have HA2 := Lib.hid (show encA (L s) = [] by rw [HA.out, if_neg h65])
      have HE2 := Lib.hid (show encE (L s) = 2 by rw [HE.out, if_neg h65])
      rcases hlenv with ⟨rfl, rfl⟩ | ⟨g, c, rfl⟩
      ·exact absurd (show ([] : List UInt8).length ≤ 65535 by simp) h65
      ·go_wp2
       go_ret2
       rw [HA2.out, HE2.out]
       exact ⟨rfl, hB⟩
 ·have hv' : validL (L s) = false := by simpa using hv
  have HR := Lib.hid (refRunes_at false s w hs hv')
  have HA := Lib.hid (show encA (L s) = [] by unfold encA; rw [if_neg (fun h => hv h.1)])
  have HE := Lib.hid (show encE (L s) = 4 by unfold encE; rw [if_neg hv])
  clear hv hv' hrl
  go_enter Tryz.func130, Tryz.ntmps130
  go_wp2_with fail
  refine HR.out.mono ?_
  rintro e w1 ⟨lv, rfl, hown1, hb1⟩
  clear hown1
  go_wp2
  go_ret2
  rw [HA.out, HE.out]
  exact ⟨rfl, hb1⟩
theorem nameB_iff (r : Int) : nameB r = true ↔ 32 < r ∧ r ≠ 127 ∧ r ≠ 59 ∧ r ≠ 91 ∧ r ≠ 40 ∧ r ≠ 41 ∧ r ≠ 46 := by unfold nameB; exact decide_eq_true_iff
set_option maxRecDepth 1000000 in
set_option maxHeartbeats 1600000 in
theorem refName_any (s : ByteArray) (w : World) (hs : s.size ≤ 1000000) :
  Calls Tryz.prog 119 #[.string s] w fun e w' => e = .returned (.bool (nameL (L s))) ∧ Below w.heap.size w w' := by
 have hrl := runes_length_le (L s)
 rw [← size_L] at hrl
 by_cases hv : validL (L s) = true
 ·have HR := Lib.hid (refRunes_at true s w hs hv)
  have HN := Lib.hid (show nameL (L s) = (nameGo 0 (runes (L s)) && decide (0 < (runes (L s)).length)) by unfold nameL; rw [hv, Bool.and_true])
  clear hv
  generalize runes (L s) = rs at *
  have hrb : rs.length ≤ 1000000 := by omega
  clear hrl
  go_enter Tryz.func119, Tryz.ntmps119
  go_wp2_with fail
  refine HR.out.mono ?_
  rintro e w1 ⟨lv, rfl, hown1, hb1⟩
  have hsl := SlI_own hown1
  clear hown1
  by_cases hpos : 0 < rs.length
  ·obtain ⟨b, off, cap, rfl, hc⟩ := SlI_some hsl (by rw [ints_length]; exact hpos)
   rw [ints_length] at hc
   have HC := Lib.hid hc
   have hlen : (ints rs).length = rs.length := ints_length rs
   rw [hlen]
   clear hsl hc hlen
   by_cases h64 : rs.length ≤ 64
   ·have HN2 := Lib.hid (show nameL (L s) = rs.all fun (r : Nat) => nameB (r : Int) by
     rw [HN.out, decide_eq_true hpos, Bool.and_true]
     unfold nameGo
     rw [decide_eq_true (by omega), Bool.true_and])
    have hp1 : (1 : Int) ≤ (rs.length : Int) := by omega
    have hp2 : (rs.length : Int) ≤ 64 := by omega
    go_wp2
    go_loopw [5, 6] (fun i _ wr => ∃ k : Nat, k ≤ rs.length ∧ i = .int .i64 k ∧ ((rs.take k).all fun (r : Nat) => nameB (r : Int)) = true ∧ wr = w1) (fun i _ _ => rs.length - (intOf i).toNat)
    case atStart => exact ⟨0, Nat.zero_le _, rfl, by simp, rfl⟩
    case round =>
     obtain ⟨k, hk, rfl, hall, rfl⟩ := hrel
     have HALL := Lib.hid hall
     clear hall
     by_cases hlt : k < rs.length
     ·have hcell := HC.out k hlt
      obtain ⟨r, hrk⟩ : ∃ r, rs.getD k 0 = r := ⟨_, rfl⟩
      have hik : (ints rs).getD k 0 = (r : Int) := by
       rw [← hrk]
       simp [ints, List.getD, hlt]
      rw [hik] at hcell
      have HTK := Lib.hid (take_nextN hlt hrk)
      clear hrk hik
      by_cases hnb : nameB (r : Int) = true
      ·obtain ⟨n1, n2, n3, n4, n5, n6, n7⟩ := (nameB_iff _).1 hnb
       have HNB := Lib.hid hnb
       have m2 : ((r : Int) == 127) = false := beq_eq_false_iff_ne.2 n2
       have m3 : ((r : Int) == 59) = false := beq_eq_false_iff_ne.2 n3
       have m4 : ((r : Int) == 91) = false := beq_eq_false_iff_ne.2 n4
       have m5 : ((r : Int) == 40) = false := beq_eq_false_iff_ne.2 n5
       have m6 : ((r : Int) == 41) = false := beq_eq_false_iff_ne.2 n6
       have m7 : ((r : Int) == 46) = false := beq_eq_false_iff_ne.2 n7
       clear n2 n3 n4 n5 n6 n7 hnb
       go_wp2
       go_roundw
       case rel =>
        refine ⟨k + 1, by omega, by go_num, ?_, trivial⟩
        rw [HTK.out, List.all_append, HALL.out]
        simp [HNB.out]
       case measure => simp [intOf]; omega
      ·have hno : (rs.all fun (r : Nat) => nameB (r : Int)) = false := by
        have hm : r ∈ rs := by
         have : r ∈ rs.take (k + 1) := by rw [HTK.out]; simp
         exact List.mem_of_mem_take this
        rw [List.all_eq_false]
        exact ⟨r, hm, by simpa using hnb⟩
       have HF := Lib.hid (show nameL (L s) = false by rw [HN2.out, hno])
       have hbad : (r : Int) ≤ 32 ∨ (32 < (r : Int) ∧ r = 127) ∨ (32 < (r : Int) ∧ r = 59) ∨ (32 < (r : Int) ∧ r = 91) ∨ (32 < (r : Int) ∧ r = 40) ∨ (32 < (r : Int) ∧ r = 41) ∨ (32 < (r : Int) ∧ r = 46) := by
        have : ¬ (32 < (r : Int) ∧ (r : Int) ≠ 127 ∧ (r : Int) ≠ 59 ∧ (r : Int) ≠ 91 ∧ (r : Int) ≠ 40 ∧ (r : Int) ≠ 41 ∧ (r : Int) ≠ 46) := fun h => hnb ((nameB_iff (r : Int)).2 h)
        omega
       clear hnb hno
       rcases hbad with h | ⟨_, rfl⟩ | ⟨_, rfl⟩ | ⟨_, rfl⟩ | ⟨_, rfl⟩ | ⟨_, rfl⟩ | ⟨_, rfl⟩
       all_goals
        go_wp2
        go_ret
        exact ⟨ret_bool HF.out.symm, hb1⟩
     ·have HT := Lib.hid (show nameL (L s) = true by
       have := HALL.out
       rw [List.take_of_length_le (by omega)] at this
       rw [HN2.out, this])
      go_wp2
      go_ret
      exact ⟨ret_bool HT.out.symm, hb1⟩
   ·have HF := Lib.hid (show nameL (L s) = false by
     rw [HN.out]
     unfold nameGo
     rw [decide_eq_false (by omega), Bool.false_and, Bool.false_and])
    have hp1 : (1 : Int) ≤ (rs.length : Int) := by omega
    have hp2 : (64 : Int) < (rs.length : Int) := by omega
    go_wp2
    go_ret
    exact ⟨ret_bool HF.out.symm, hb1⟩
  ·have hnil : rs = [] := List.eq_nil_of_length_eq_zero (by omega)
   subst hnil
   have HF := Lib.hid (show nameL (L s) = false by rw [HN.out]; simp)
   have hlv : lv = .slice none 0 0 ∨ ∃ a c, lv = .slice (some a) 0 c := by
    rcases hsl with ⟨h, _⟩ | ⟨b, off, cap, h, _⟩
    ·exact .inl h
    ·exact .inr ⟨_, cap, h⟩
   clear hsl
   rcases hlv with rfl | ⟨a, c, rfl⟩
   all_goals
    go_wp2
    go_ret
    exact ⟨ret_bool HF.out.symm, hb1⟩
 ·have hv' : validL (L s) = false := by simpa using hv
  have HR := Lib.hid (refRunes_at false s w hs hv')
  have HF := Lib.hid (show nameL (L s) = false by unfold nameL; rw [hv', Bool.and_false])
  clear hv hv' hrl
  go_enter Tryz.func119, Tryz.ntmps119
  go_wp2_with fail
  refine HR.out.mono ?_
  rintro e w1 ⟨lv, rfl, hown1, hb1⟩
  clear hown1
  go_wp2
  go_ret
  exact ⟨ret_bool HF.out.symm, hb1⟩
def r2 (l : List UInt8) : Nat := (at0 l 0 - 192) * 64 + (at0 l 1 - 128)
end Go.Proofs.YtmaknddlgppinaaGreatDoor
namespace Go.Proofs.YtmaknddlgppinaaGreatDoor
/-- A type: its dimensions and its name. -/
abbrev Ty := Nat × List UInt8
def descT (p : Ty) : List UInt8 := List.replicate p.1 91 ++ (if p.2 = [] then [73] else 76 :: (p.2 ++ [59]))
def tlen (p : Ty) : Nat := (descT p).length
theorem nameL_nil : nameL [] = false := by decide
theorem descT_len (p : Ty) : (descT p).length = p.1 + (if p.2 = [] then 1 else p.2.length + 2) := by
 unfold descT
 by_cases h : p.2 = []
 ·simp [h]
 ·simp [h]
theorem tlen_pos (p : Ty) : 1 ≤ tlen p := by
 unfold tlen
 rw [descT_len]
 split <;> omega
def baseL : List UInt8 → Option (List UInt8)
 | [] => none
 | c :: t => if c = 73 then some [] else if c = 76 then
   (if (t.takeWhile (· != 59)).length < t.length ∧ nameL (t.takeWhile (· != 59)) = true then some (t.takeWhile (· != 59)) else none) else none
theorem baseL_cons (c : UInt8) (t : List UInt8) : baseL (c :: t) = if c = 73 then some [] else if c = 76 then
   (if (t.takeWhile (· != 59)).length < t.length ∧ nameL (t.takeWhile (· != 59)) = true then some (t.takeWhile (· != 59)) else none) else none := rfl
def lead (l : List UInt8) : Nat := (l.takeWhile (· == 91)).length
def firstL (l : List UInt8) : Option Ty := if 4 < lead l then none else (baseL (l.drop (lead l))).map fun n => (lead l, n)
theorem lead_le (l : List UInt8) : lead l ≤ l.length := (List.takeWhile_prefix _).length_le
theorem lead_cons (c : UInt8) (t : List UInt8) : lead (c :: t) = if c = 91 then lead t + 1 else 0 := by
 unfold lead
 by_cases h : c = 91 <;> simp [h]
theorem lead_nil : lead [] = 0 := rfl
theorem lead_at (l : List UInt8) (k : Nat) (h : k < lead l) : at0 l k = 91 := by
 induction k generalizing l with
 | zero =>
  cases l with
  | nil => simp [lead_nil] at h
  | cons c t =>
   rw [lead_cons] at h
   by_cases hc : c = 91
   ·subst hc; rfl
   ·rw [if_neg hc] at h; omega
 | succ k ih =>
  cases l with
  | nil => simp [lead_nil] at h
  | cons c t =>
   rw [lead_cons] at h
   by_cases hc : c = 91
   ·rw [if_pos hc] at h
    exact ih t (by omega)
   ·rw [if_neg hc] at h; omega
theorem lead_end (l : List UInt8) (h : lead l < l.length) : at0 l (lead l) ≠ 91 := by
 induction l with
 | nil => simp at h
 | cons c t ih =>
  rw [lead_cons] at h ⊢
  by_cases hc : c = 91
  ·rw [if_pos hc] at h ⊢
   exact ih (by simp at h; omega)
  ·rw [if_neg hc]
   intro hh
   apply hc
   have h1 : c.toNat = 91 := hh
   exact UInt8.toNat_inj.1 (by rw [h1]; rfl)
/-- The whole text is a type's. -/
def fieldL (l : List UInt8) : Option Ty := match firstL l with
 | some p => if tlen p = l.length then some p else none
 | none => none
def argsL : Nat → List UInt8 → List Ty × List UInt8
 | 0, l => ([], l)
 | f + 1, l => match firstL l with
  | none => ([], l)
  | some p => (p :: (argsL f (l.drop (tlen p))).1, (argsL f (l.drop (tlen p))).2)
def args (l : List UInt8) : List Ty × List UInt8 := argsL l.length l
/-- What a signature answers: void, or a type. -/
def retL (l : List UInt8) : Option (Option Ty) := if l = [86] then some none else (fieldL l).map some
/-- A signature's arguments, and what it answers; none: the text has no such form. -/
def sigR : List Ty × List UInt8 → Option (List Ty × Option Ty)
 | (xs, 41 :: r) => (retL r).map fun q => (xs, q)
 | _ => none
def methL : List UInt8 → Option (List Ty × Option Ty)
 | 40 :: t => sigR (args t)
 | _ => none
end Go.Proofs.YtmaknddlgppinaaGreatDoor
namespace Go.Proofs.YtmaknddlgppinaaGreatDoor
open Go.RowKit
theorem bcell {W w1 : World} (hb : Below W.heap.size W w1) : (∀ b o, b < W.heap.size → w1.cell? ⟨b, o, none⟩ = W.cell? ⟨b, o, none⟩) ∧ (∀ b o, b < W.heap.size → w1.frozen? ⟨b, o, none⟩ = W.frozen? ⟨b, o, none⟩) :=
 ⟨fun b o h => hb.cell (p := ⟨b, o, none⟩) h, fun b o h => hb.frozen (p := ⟨b, o, none⟩) h⟩
theorem toList_data (s : ByteArray) : s.toList = L s := Lib.toList_data s
theorem size0_nil {s : ByteArray} (h : s.size = 0) : L s = [] := List.eq_nil_of_length_eq_zero (by rw [← size_L]; exact h)
theorem sizepos_ne {s : ByteArray} (h : 0 < s.size) : L s ≠ [] := by
 intro e
 rw [size_L, e] at h
 simp at h
theorem nil_of0 {s : ByteArray} (h : s.size = 0) : s.toList = [] := by rw [toList_data]; exact size0_nil h
theorem ne_ofpos {s : ByteArray} (h : 0 < s.size) : ¬ s.toList = [] := by rw [toList_data]; exact sizepos_ne h
theorem emp_of0 {s : ByteArray} (h : s.size = 0) : s.toList.isEmpty = true := by rw [nil_of0 h]; rfl
theorem emp_ofpos {s : ByteArray} (h : 0 < s.size) : s.toList.isEmpty = false := by simpa using ne_ofpos h
def mkB (l : List UInt8) : ByteArray := ⟨l.toArray⟩
theorem mkB_L (s : ByteArray) : mkB (L s) = s := by cases s; rfl
theorem results67 : Tryz.f67.results = #[ResultVar.cell 2 31] := by kernel_rfl
set_option maxRecDepth 1000000 in
set_option maxHeartbeats 1600000 in
theorem element_any (d : Int) (s : ByteArray) (h1 : -1000000 ≤ d) (h2 : d ≤ 1000000) (w : World) :
  Calls Tryz.prog 67 #[.agg #[.int .i64 d, .string s]] w fun e w' => e = .returned (.agg #[.int .i64 (d - 1), .string s]) ∧ Below w.heap.size w w' := by
 go_enter Tryz.func67, Tryz.ntmps67
 go_wp2
 refine bodyPost_ret (v := .agg #[.int .i64 (d - 1), .string s]) (by simp [results, results67, go_sem]) rfl ⟨rfl, ?_⟩
 exact ((Below.refl w.heap.size w).alloc (Nat.le_refl _) _).alloc (by simp) _
theorem results69 : Tryz.f69.results = #[ResultVar.cell 0 31] := by kernel_rfl
set_option maxRecDepth 1000000 in
set_option maxHeartbeats 1600000 in
theorem typeObject_any (w : World) :
  Calls Tryz.prog 69 #[] w fun e w' => e = .returned (.agg #[.int .i64 0, .string ⟨#[79, 98, 106, 101, 99, 116]⟩]) ∧ Below w.heap.size w w' := by
 go_enter Tryz.func69, Tryz.ntmps69
 go_wp2
 refine bodyPost_ret (v := .agg #[.int .i64 0, .string ⟨#[79, 98, 106, 101, 99, 116]⟩]) (by simp [results, results69, go_sem]) rfl ⟨rfl, ?_⟩
 exact (Below.refl w.heap.size w).alloc (Nat.le_refl _) _
set_option maxRecDepth 1000000 in
set_option maxHeartbeats 1600000 in
theorem isInt_any (d : Int) (s : ByteArray) (w : World) :
  Calls Tryz.prog 66 #[.agg #[.int .i64 d, .string s]] w fun e w' => e = .returned (.bool (decide (d = 0 ∧ s.toList = []))) ∧ Below w.heap.size w w' := by
 go_enter Tryz.func66, Tryz.ntmps66
 go_wp2
 all_goals
  go_ret
  refine ⟨?_, (Below.refl w.heap.size w).alloc (Nat.le_refl _) _⟩
  refine congrArg (fun b => Ending.returned (Value.bool b)) (a₁ := _) ?_
  simp [*]
end Go.Proofs.YtmaknddlgppinaaGreatDoor
