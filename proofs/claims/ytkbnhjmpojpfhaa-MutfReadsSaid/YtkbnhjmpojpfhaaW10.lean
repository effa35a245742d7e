/-
  WALKS of the document's own 'Runes', 'Make', 'Encode' and 'Name'.
-/
import Derived.Test.YtkbnhjmpojpfhaaW9
import Derived.Lib.AppendStr
namespace Go.Proofs.Ytkbnhjmpojpfhaa
open Go.RowKit

theorem Try.info3 : (Try.prog.info? 3).map (fun i => (i.zero, i.size, i.bytes)) = some (some (.int .i64 0), 1, 8) := by kernel_rfl
def icells (l : List Int) : List Value := l.map fun (r : Int) => .int .i64 r
theorem icells_append (a b : List Int) : icells (a ++ b) = icells a ++ icells b := by simp [icells]
theorem icells_length (a : List Int) : (icells a).length = a.length := by simp [icells]
def ints (l : List Nat) : List Int := l.map fun (r : Nat) => (r : Int)
theorem ints_append (a b : List Nat) : ints (a ++ b) = ints a ++ ints b := by simp [ints]
theorem ints_length (a : List Nat) : (ints a).length = a.length := by simp [ints]
def strSize : Value → Nat
  | .string s => s.size
  | _ => 0

theorem next_at (s : ByteArray) (w : World) (l : List UInt8) (r n : Nat) (hp : 0 < s.size) (hl : s.data.toList = l) (h : nextL l = (r, n)) :
    Calls Try.prog 33 #[.string s] w fun e w' => e = .returned (.tuple #[.int .i64 r, .int .i64 n]) ∧ w = w' := by
  have := next_any s w hp
  rw [hl, h] at this
  exact this

set_option maxRecDepth 1000000 in
set_option maxHeartbeats 800000 in
theorem refRunes_any (s : ByteArray) (w : World) (hs : s.size ≤ 1000000) :
    Calls Try.prog 18 #[.string s] w fun e w' => ∃ v, e = .returned (.tuple #[v, .bool (validL (L s))]) ∧ w'.ownsRow w.heap.size 3 1 v (ints (runes (L s))).length (icells (ints (runes (L s)))) ∧ Below w.heap.size w w' := by
  have hlen := runes_length_le (L s)
  rw [← size_L] at hlen
  have HLEN := Lib.hid hlen
  clear hlen
  obtain ⟨i0, hi, hz0, hz1, hz2⟩ := info_parts Try.info3
  go_enter Try.func18, Try.ntmps18
  go_wp2
  go_loopw [0, 4, 5, 6, 7] (fun x v ok _ _ wr => ∃ (t : ByteArray) (b : Bool) (done : List Nat), x = .string t ∧ ok = .bool b ∧ t.size ≤ s.size ∧ wr.ownsRow w.heap.size 3 1 v (ints done).length (icells (ints done)) ∧ done ++ runes (L t) = runes (L s) ∧ (b && validL (L t)) = validL (L s) ∧ Below w.heap.size w wr) (fun x _ _ _ _ _ => strSize x)
  case atStart => exact ⟨s, true, [], rfl, rfl, Nat.le_refl _, World.ownsRow_nil _ _ _ _, by simp, by simp, Below.refl _ _⟩
  case round =>
    obtain ⟨t, b, done, rfl, rfl, hts, hown, hrem, hval, hbel⟩ := hrel
    have HOWN := Lib.hid hown
    have HREM := Lib.hid hrem
    have HVAL := Lib.hid hval
    have hbs := hbel.size
    clear hown hrem hval
    have hdl : done.length ≤ 1000000 := by
      have a := congrArg List.length HREM.out
      have c := HLEN.out
      simp only [List.length_append] at a
      omega
    by_cases hp : 0 < t.size
    · have hne : L t ≠ [] := by
        intro e
        have : t.size = 0 := by rw [size_L, e]; rfl
        omega
      have hwl := dec_width_le _ hne
      have hw1 := (dec_width (L t)).1
      have hrc := runes_cons _ hne
      have hvc := validL_cons _ hne
      have hru := dec_rune (L t)
      obtain ⟨r, n, hd⟩ : ∃ r n, dec (L t) = (r, n) := ⟨_, _, rfl⟩
      rw [hd] at hwl hw1 hrc hvc hru
      rw [← size_L] at hwl
      simp only at hwl hw1 hrc hvc hru
      have HRC := Lib.hid hrc
      have HVC := Lib.hid hvc
      have hex : ∀ n, L (t.extract n t.size) = (L t).drop n := fun n => Lib.extract_to_end t n
      have hexs : ∀ n, (t.extract n t.size).size = t.size - n := fun n => by rw [size_L, hex, List.length_drop, ← size_L]
      have HEX := Lib.hid hex
      have HEXS := Lib.hid hexs
      clear hrc hvc hne hex hexs
      by_cases hbad : bad (r, n) = true
      · have hrn : r = 65533 ∧ n = 1 := by simpa [bad] using hbad
        obtain ⟨rfl, rfl⟩ := hrn
        have hnx : nextL (L t) = (0, 0) := by rw [nextL_of hd]; rfl
        have HN := Lib.hid (next_at t wr (L t) 0 0 hp rfl hnx)
        have HBAD := Lib.hid hbad
        clear hd hnx hbad
        go_wp2_with (first | (go_at_call 33; refine HN.out.mono ?_; rintro e w' ⟨rfl, rfl⟩) | (at_builtin; refine wpList_append_own _ rfl (.tmp 18) (.tmp 20) 27 rfl w.heap.size 3 i0 (.int .i64 0) 1 8 Try.underlying27 hi hz0 hz1 hz2 rfl (by decide) _ _ _ rfl (HOWN.out.alloc _) ⟨wr.heap.size, 0, none⟩ 1 1 [.int .i64 65533] rfl rfl ?c1 ?c2 ?c3 ?c4 ?c5 ?_))
        case c1 => exact new_cells wr [.int .i64 65533] 3
        case c2 => exact int_cells .i64 [65533]
        case c3 => rw [ints_length]; unfold maxLen; omega
        case c4 => rw [ints_length]; omega
        case c5 => simp; omega
        intro v' w1 hown' hgrow _
        have HO' := Lib.hid hown'
        have hB1 : Below w.heap.size w w1 := (hbel.alloc (by omega) _).grown hgrow (by simp; omega) (fun k hk => (HOWN.out.lt k hk).1)
        clear hown' hgrow
        go_wp2
        go_roundw
        case rel =>
          refine ⟨t.extract 1 t.size, false, done ++ [65533], rfl, rfl, by rw [HEXS.out]; omega, ?_, ?_, ?_, hB1⟩
          · have := HO'.out
            rw [ints_append, icells_append, List.length_append]
            exact this
          · rw [List.append_assoc, HEX.out, ← HREM.out, HRC.out]
            rfl
          · rw [← HVAL.out, HVC.out, HBAD.out]
            simp
        case measure => simp only [strSize]; rw [HEXS.out]; omega
      · have hbad' : bad (r, n) = false := by simpa using hbad
        have hnx : nextL (L t) = (r, n) := by
          rw [nextL_of hd, if_neg]
          intro h
          rw [h] at hbad'
          simp [bad] at hbad'
        have HN := Lib.hid (next_at t wr (L t) r n hp rfl hnx)
        have HBAD := Lib.hid hbad'
        have hn0 : ((n : Int) == 0) = false := by rw [beq_eq_false_iff_ne]; omega
        have hn4 : n ≤ 4 := by have := (dec_width (L t)).2; rw [hd] at this; exact this
        clear hd hnx hbad hbad'
        go_wp2_with (first | (go_at_call 33; refine HN.out.mono ?_; rintro e w' ⟨rfl, rfl⟩) | (at_builtin; refine wpList_append_own _ rfl (.tmp 18) (.tmp 20) 27 rfl w.heap.size 3 i0 (.int .i64 0) 1 8 Try.underlying27 hi hz0 hz1 hz2 rfl (by decide) _ _ _ rfl (HOWN.out.alloc _) ⟨wr.heap.size, 0, none⟩ 1 1 [.int .i64 r] rfl rfl ?c1 ?c2 ?c3 ?c4 ?c5 ?_))
        case c1 => exact new_cells wr [.int .i64 (r : Int)] 3
        case c2 => exact int_cells .i64 [(r : Int)]
        case c3 => rw [ints_length]; unfold maxLen; omega
        case c4 => rw [ints_length]; omega
        case c5 => simp; omega
        intro v' w1 hown' hgrow _
        have HO' := Lib.hid hown'
        have hB1 : Below w.heap.size w w1 := (hbel.alloc (by omega) _).grown hgrow (by simp; omega) (fun k hk => (HOWN.out.lt k hk).1)
        clear hown' hgrow
        go_wp2
        go_roundw
        case rel =>
          refine ⟨t.extract n t.size, b, done ++ [r], rfl, rfl, by rw [HEXS.out]; omega, ?_, ?_, ?_, hB1⟩
          · have := HO'.out
            rw [ints_append, icells_append, List.length_append]
            exact this
          · rw [List.append_assoc, HEX.out, ← HREM.out, HRC.out]
            rfl
          · rw [← HVAL.out, HVC.out, HBAD.out, HEX.out]
            simp
        case measure => simp only [strSize]; rw [HEXS.out]; omega
    · have hnil : L t = [] := List.eq_nil_of_length_eq_zero (by rw [← size_L]; omega)
      have hdone : done = runes (L s) := by
        have := HREM.out
        rw [hnil, runes_nil, List.append_nil] at this
        exact this
      have hb : b = validL (L s) := by
        have := HVAL.out
        rw [hnil, validL_nil, Bool.and_true] at this
        exact this
      have HD := Lib.hid hdone
      have HB := Lib.hid hb
      clear hnil hdone hb
      go_wp2
      go_ret2
      refine ⟨u4, ?_, ?_, hbel⟩
      · rw [← HB.out]; rfl
      · rw [← HD.out]; exact HOWN.out

/-- The slice value v reads as the ints zs. -/
def SlI (w : World) (v : Value) (zs : List Int) : Prop :=
  (v = .slice none 0 0 ∧ zs = []) ∨ ∃ b off cap, v = .slice (some ⟨b, off, none⟩) zs.length cap ∧ ∀ j, j < zs.length → w.cell? ⟨b, off + j, none⟩ = some (.int .i64 (zs.getD j 0))
theorem SlI_own {w : World} {base : Nat} {v : Value} {l : List Int} (h : w.ownsRow base 3 1 v l.length (icells l)) : SlI w v l := by
  rcases h.2 with ⟨rfl, hn⟩ | ⟨g, cap, cur, rfl, hb, hgg, rest⟩
  · exact .inl ⟨rfl, List.eq_nil_of_length_eq_zero hn⟩
  · refine .inr ⟨g, 0, cap, rfl, ?_⟩
    intro j hj
    have := h.cells (g := g) rfl j (.int .i64 l[j]) (by simp [icells, hj])
    have e : (({ block := g, off := 0 } : Addr).add j) = ⟨g, 0 + j, none⟩ := by simp [Addr.add]; intro h0; exact h0.symm
    rw [e] at this
    rw [this]
    simp [hj]
theorem SlI.keep {w w' : World} {v : Value} {zs : List Int} (h : SlI w v zs) (hb : Below w.heap.size w w') : SlI w' v zs := by
  rcases h with h | ⟨b, off, cap, rfl, hc⟩
  · exact .inl h
  · exact .inr ⟨b, off, cap, rfl, fun j hj => by
      have e := hc j hj
      have hlt := World.block_lt_of_cell? w _ e
      rw [← e]
      exact hb.cell (p := ⟨b, off + j, none⟩) hlt⟩

def utfZ (z : Int) : List UInt8 := u8 z.toNat
def mkA (zs : List Int) : List UInt8 := if zs.all scalB then zs.flatMap utfZ else []
theorem scalB_range {z : Int} (h : scalB z = true) : (0 ≤ z ∧ z < 55296) ∨ (57343 < z ∧ z ≤ 1114111) := of_decide_eq_true h
theorem flat_u8_le (zs : List Int) : (zs.flatMap utfZ).length ≤ 4 * zs.length := by
  induction zs with
  | nil => simp
  | cons z zs ih =>
    have : (utfZ z).length ≤ 4 := (u8_length z.toNat).2
    simp only [List.flatMap_cons, List.length_append, List.length_cons]
    omega
theorem strV_size (l : List UInt8) : (⟨l.toArray⟩ : ByteArray).size = l.length := by simp [ByteArray.size]
theorem take_next {zs : List Int} {k : Nat} (h : k < zs.length) : zs.take (k + 1) = zs.take k ++ [zs.getD k 0] := by
  rw [List.take_succ_eq_append_getElem h]
  congr 2
  simp [List.getD, h]

set_option maxRecDepth 1000000 in
set_option maxHeartbeats 1600000 in
theorem refMake_any (v : Value) (zs : List Int) (w : World) (hr : SlI w v zs) (hz : zs.length ≤ 1000000) :
    Calls Try.prog 23 #[v] w fun e w' => e = .returned (.tuple #[strV (mkA zs), .bool (zs.all scalB)]) ∧ Below w.heap.size w w' := by
  obtain ⟨i0, hi, hz0, hz1, hz2⟩ := info_parts Try.info5
  rcases hr with ⟨rfl, rfl⟩ | ⟨b, off, cap, rfl, hc⟩
  · have hA : mkA [] = [] := rfl
    rw [hA]
    have hcv : (convert 43 9 (.slice none 0 0)).run Try.prog w = .ok (strV []) w := string_owned (base := w.heap.size) (World.ownsRow_nil _ _ _ _)
    clear hA
    go_enter Try.func23, Try.ntmps23
    go_wp2
    refine wp_loop_rounds 1 ?_
    rw [rounds_succ]
    go_wp2
    go_ret2
    exact ⟨rfl, Below.refl _ _⟩
  · have HC := Lib.hid hc
    clear hc
    go_enter Try.func23, Try.ntmps23
    go_wp2
    go_loopw [4, 5, 6] (fun bv i _ wr => ∃ k : Nat, k ≤ zs.length ∧ i = .int .i64 k ∧ (zs.take k).all scalB = true ∧ wr.ownsRow w.heap.size 5 1 bv ((zs.take k).flatMap utfZ).length (bcells ((zs.take k).flatMap utfZ)) ∧ Below w.heap.size w wr) (fun _ i _ _ => zs.length - (intOf i).toNat)
    case atStart => exact ⟨0, Nat.zero_le _, rfl, by simp, World.ownsRow_nil _ _ _ _, Below.refl _ _⟩
    case round =>
      obtain ⟨k, hk, rfl, hall, hown, hbel⟩ := hrel
      have HALL := Lib.hid hall
      have HOWN := Lib.hid hown
      have hbs := hbel.size
      clear hall hown
      by_cases hlt : k < zs.length
      · have hcell0 := HC.out k hlt
        have hblt := World.block_lt_of_cell? w _ hcell0
        have hcell : wr.cell? ⟨b, off + k, none⟩ = some (.int .i64 (zs.getD k 0)) := by
          rw [← hcell0]
          exact hbel.cell (p := ⟨b, off + k, none⟩) hblt
        have HTK := Lib.hid (take_next hlt)
        obtain ⟨z, hzk⟩ : ∃ z, zs.getD k 0 = z := ⟨_, rfl⟩
        rw [hzk] at hcell HTK
        clear hzk hcell0 hblt
        by_cases hs : scalB z = true
        · have hrg := scalB_range hs
          have HSZ := Lib.hid hs
          have h0z : 0 ≤ z := by omega
          have h1z : z ≤ 1114111 := by omega
          have HU := fun W => Lib.hid (show Calls Try.prog 35 #[.int .i64 z] W fun e w' => e = .returned (strV (utfZ z)) ∧ Below W.heap.size W w' from utf_any z h0z h1z W)
          have hul : (utfZ z).length ≤ 4 := (u8_length z.toNat).2
          have hfl := flat_u8_le (zs.take k)
          have htl : (zs.take k).length ≤ k := List.length_take_le _ _
          generalize hgl : utfZ z = ul at *
          generalize hgf : (zs.take k).flatMap utfZ = fl at *
          have HGL := Lib.hid hgl
          have HGF := Lib.hid hgf
          have hflb : fl.length ≤ 4000000 := by omega
          clear hs hgl hgf hfl htl
          rcases hrg with hrg | hrg
          all_goals
            obtain ⟨hrg1, hrg2⟩ := hrg
            go_wp2_with fail
            refine (HU _).out.mono ?_
            rintro e w1 ⟨rfl, hb1⟩
            have hbs1 := hb1.size
            have HO1 := Lib.hid (show w1.ownsRow w.heap.size 5 1 u4 fl.length (bcells fl) from HOWN.out.kept (row := none) ⟨hb1.os, hb1.tape, hb1.output, hb1.size, fun k hk _ => hb1.block k hk⟩ (by cases u4.ownBlock <;> simp))
            have hbel1 : Below w.heap.size w w1 := hbel.trans (hb1.mono hbs)
            clear hb1
            go_wp2_with (at_builtin; refine Lib.wpList_append_own_string _ rfl (.tmp 31) (.tmp 33) 43 9 rfl w.heap.size 5 i0 Try.underlying43 Try.underlying9 hi hz0 hz1 hz2 _ _ _ rfl HO1.out ⟨ul.toArray⟩ rfl ?_ ?_ ?_ ?_)
            · rw [strV_size]; unfold maxLen; omega
            · rw [strV_size]; omega
            · omega
            intro v' w2 hown2 hg2 _
            have HO2 := Lib.hid hown2
            have hbel2 : Below w.heap.size w w2 := hbel1.grown hg2 (by omega) (fun k hk => (HO1.out.lt k hk).1)
            clear hown2 hg2
            go_wp2
            go_roundw
            case rel =>
              refine ⟨k + 1, by omega, by go_num, ?_, ?_, hbel2⟩
              · rw [HTK.out, List.all_append, HALL.out]
                simp [HSZ.out]
              · have := HO2.out
                rw [HTK.out, List.flatMap_append, HGF.out, List.flatMap_cons, List.flatMap_nil, HGL.out, List.append_nil, bcells_append, List.length_append]
                exact this
            case measure => simp [intOf]; omega
        · have hs' : scalB z = false := by simpa using hs
          have hno : zs.all scalB = false := by
            have : z ∈ zs := by
              have : z ∈ zs.take (k + 1) := by rw [HTK.out]; simp
              exact List.mem_of_mem_take this
            rw [List.all_eq_false]
            exact ⟨z, this, by simp [hs']⟩
          have HA := Lib.hid (show mkA zs = [] by unfold mkA; rw [hno]; rfl)
          have HNO := Lib.hid hno
          have hrg : z < 0 ∨ 1114111 < z ∨ (55296 ≤ z ∧ z ≤ 57343) := by
            have := of_decide_eq_false hs'
            omega
          clear hs hs' hno
          rcases hrg with hrg | hrg | ⟨hrg1, hrg2⟩
          all_goals
            go_wp2
            all_goals
              go_ret2
              rw [HA.out, HNO.out]
              exact ⟨rfl, hbel⟩
      · have hall : zs.all scalB = true := by
          have := HALL.out
          rwa [List.take_of_length_le (by omega)] at this
        have HA := Lib.hid (show mkA zs = zs.flatMap utfZ by unfold mkA; rw [hall]; rfl)
        have hcv := string_owned HOWN.out
        rw [List.take_of_length_le (by omega)] at hcv
        have HALLT := Lib.hid hall
        clear hall
        generalize (zs.flatMap utfZ) = fl at *
        go_wp2
        go_ret2
        rw [HA.out, HALLT.out]
        exact ⟨rfl, hbel⟩
end Go.Proofs.Ytkbnhjmpojpfhaa
