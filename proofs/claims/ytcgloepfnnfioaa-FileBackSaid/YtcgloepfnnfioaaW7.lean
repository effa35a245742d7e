/-
  PRUNED by wip/tools/prunem.py: what these texts need of an earlier stage's.
-/
import Derived.Test.YtcgloepfnnfioaaW6
import Derived.Laws.Cover4
set_option linter.unusedVariables false
set_option linter.unusedSimpArgs false
namespace Go.Proofs.Ytcgloepfnnfioaa
open Go.RowKit

def rcells (l : List Nat) : List Value := l.map fun (r : Nat) => .int .i32 (r : Int)
theorem rcells_append (a b : List Nat) : rcells (a ++ b) = rcells a ++ rcells b := by simp [rcells]
theorem runesBytes_cons (n : Int) (ns : List Int) : runesBytes (n :: ns) = Utf8.encode n ++ runesBytes ns := by
  have key : ∀ (ns : List Int) (s : ByteArray), ns.foldl (fun r n => r ++ Utf8.encode n) s = s ++ ns.foldl (fun r n => r ++ Utf8.encode n) ByteArray.empty := by
    intro ns
    induction ns with
    | nil => intro s; simp
    | cons x xs ih =>
      intro s
      simp only [List.foldl_cons]
      rw [ih (s ++ Utf8.encode x), ih (ByteArray.empty ++ Utf8.encode x)]
      simp [ByteArray.append_assoc]
  unfold runesBytes
  rw [List.foldl_cons, key]
  simp
theorem runesBytes_u8 : ∀ (rs : List Nat), (∀ r ∈ rs, Scal r) → runesBytes (rs.map fun (r : Nat) => (r : Int)) = ⟨(rs.flatMap u8).toArray⟩
  | [], _ => rfl
  | r :: rs, h => by
    rw [List.map_cons, runesBytes_cons, runesBytes_u8 rs (fun x hx => h x (by simp [hx])), encode_u8 (h r (by simp))]
    apply ByteArray.ext
    simp
/-- 'string(l)' of an owned row of runes. -/
theorem runes_owned {w : World} {base : Nat} {v : Value} {l : List Nat} (h : w.ownsRow base 21 1 v l.length (rcells l)) (hs : ∀ r ∈ l, Scal r) : (convert 134 9 v).run Try.prog w = .ok (strV (l.flatMap u8)) w := by
  rcases h.2 with ⟨rfl, hn⟩ | ⟨g, cap, cur, rfl, hb, hgg, rest⟩
  · have : l = [] := List.eq_nil_of_length_eq_zero hn
    subst this
    exact run_convert_runes_nil w 134 9 21 0 0 Try.underlying134 Try.underlying21 Try.underlying9
  · have hr := run_convert_runes (P := Try.prog) w 134 9 21 ⟨g, 0, none⟩ l.length cap (l.map fun (r : Nat) => (r : Int)) (by simp) Try.underlying134 Try.underlying21 Try.underlying9 (by
      intro j hj
      simp at hj
      refine h.cells (g := g) rfl j _ ?_
      simp [rcells, hj])
    rw [hr, List.take_of_length_le (by simp), runesBytes_u8 l hs]
    rfl
def decA (l : List UInt8) : List UInt8 := if l.length ≤ 65535 then ((mruns l).getD []).flatMap u8 else []
def decE (l : List UInt8) : Int := if l.length ≤ 65535 then (if (mruns l).isSome then 0 else 4) else 2
theorem firstRune_at (s : ByteArray) (w : World) (l : List UInt8) (r n : Nat) (hl : s.data.toList = l) (h : mdec l = (r, n)) :
    Calls Try.prog 122 #[.string s] w fun e w' => e = .returned (.tuple #[.int .i32 r, .int .i64 n]) ∧ w = w' := by
  have := firstRune_any s w
  rw [hl, h] at this
  exact this
set_option maxRecDepth 1000000 in
set_option maxHeartbeats 800000 in
theorem Decode_any (s : ByteArray) (w : World) :
    Calls Try.prog 113 #[.string s] w fun e w' => e = .returned (.tuple #[strV (decA (L s)), .int .i64 (decE (L s))]) ∧ Below w.heap.size w w' := by
  have hsz := size_L s
  by_cases hl : s.size ≤ 65535
  · obtain ⟨i0, hi, hz0, hz1, hz2⟩ := info_parts Try.info21
    have HSZ := Lib.hid hsz
    clear hsz
    go_enter Try.func113, Try.ntmps113
    go_wp2_with (at_make; refine wpList_make_own _ rfl _ _ 134 rfl w.heap.size 21 i0 (.int .i32 0) 1 Try.underlying134 hi hz0 hz1 _ _ _ s.size rfl rfl rfl ?b1 ?b2 ?b3 ?_)
    case b1 => rw [hz2]; omega
    case b2 => unfold maxLen; omega
    case b3 => omega
    intro w3 hown3 hg3
    have hB3 : Below w.heap.size w w3 := (Below.refl _ _).grown hg3 (by omega) (fun k hk => by simp at hk)
    have hs3 := hg3.size
    have HO3 := Lib.hid hown3
    clear hown3 hg3
    go_wp2
    go_loopw [4, 5, 6, 7] (fun v i _ _ wr => ∃ (pos : Nat) (done : List Nat), i = .int .i64 pos ∧ pos ≤ s.size ∧ wr.ownsRow w.heap.size 21 1 v done.length (rcells done) ∧ (mruns ((L s).drop pos)).map (done ++ ·) = mruns (L s) ∧ (∀ r ∈ done, Scal r) ∧ done.length ≤ pos ∧ Below w.heap.size w wr) (fun _ i _ _ _ => s.size - (intOf i).toNat)
    case atStart => exact ⟨0, [], rfl, Nat.zero_le _, HO3.out, by simp, by simp, Nat.le_refl _, hB3⟩
    case round =>
      obtain ⟨pos, done, rfl, hpos, hown, hrem, hsc, hdl, hbel⟩ := hrel
      have HOWN := Lib.hid hown
      have HREM := Lib.hid hrem
      have HSC := Lib.hid hsc
      have hbs := hbel.size
      clear hown hrem hsc
      by_cases hp : pos < s.size
      · obtain ⟨r, n, hd⟩ : ∃ r n, mdec ((L s).drop pos) = (r, n) := ⟨_, _, rfl⟩
        have HF := Lib.hid (firstRune_at (s.extract pos s.size) wr ((L s).drop pos) r n (by rw [Lib.extract_to_end]) hd)
        have hmc := mruns_cons _ (drop_ne hp)
        rw [hd, List.drop_drop] at hmc
        have HMC := Lib.hid hmc
        clear hmc
        by_cases hn : n = 0
        · have hA := Lib.hid (show decA (L s) = [] by
            have hh := HREM.out
            rw [HMC.out, if_pos hn] at hh
            unfold decA
            rw [← hh]
            simp)
          have hE := Lib.hid (show decE (L s) = 4 by
            have hh := HREM.out
            rw [HMC.out, if_pos hn] at hh
            unfold decE
            rw [← hh, if_pos (by rw [← HSZ.out]; omega)]
            rfl)
          have hr0 : r = 0 := by
            by_cases hr : r = 0
            · exact hr
            · exfalso
              unfold mdec at hd
              split at hd
              · cases hd; exact hr rfl
              split at hd
              · rename_i h1 _; rw [hd] at h1; exact h1 hn
              split at hd
              · rename_i h1 _ _; have := congrArg Prod.snd hd; simp only at this; omega
              · cases hd; exact hr rfl
          subst hn hr0
          clear hd
          go_wp2_with fail
          refine HF.out.mono ?_
          rintro e w' ⟨rfl, rfl⟩
          go_wp2
          go_ret2
          refine ⟨?_, hbel⟩
          rw [hA.out, hE.out]
          rfl
        · obtain ⟨ht1, ht2, ht3⟩ := mdec_take ((L s).drop pos) (by rw [hd]; exact hn)
          have hle := mdec_le ((L s).drop pos)
          rw [hd] at ht3 hle
          rw [List.length_drop, ← HSZ.out] at hle
          have hle' : pos + n ≤ s.size := by simp only at hle; omega
          have hsr : Scal r := ht3
          have hsr2 : r ≤ 1114111 := by unfold Scal at hsr; omega
          have HSR := Lib.hid hsr
          have hn0 : ((n : Int) == 0) = false := by rw [beq_eq_false_iff_ne]; omega
          clear hd ht1 ht2 ht3 hle hsr
          go_wp2_with (first | (go_at_call 122; refine HF.out.mono ?_; rintro e w' ⟨rfl, rfl⟩) | (at_builtin; refine wpList_append_own _ rfl (.tmp 27) (.tmp 29) 134 rfl w.heap.size 21 i0 (.int .i32 0) 1 4 Try.underlying134 hi hz0 hz1 hz2 rfl (by decide) _ _ _ rfl (HOWN.out.alloc _) ⟨wr.heap.size, 0, none⟩ 1 1 [.int .i32 r] rfl rfl ?c1 ?c2 ?c3 ?c4 ?c5 ?_))
          case c1 => exact new_cells wr [.int .i32 (r : Int)] 21
          case c2 => exact int_cells .i32 [(r : Int)]
          case c3 => unfold maxLen; omega
          case c4 => omega
          case c5 => simp; omega
          intro v' w1 hown' hgrow _
          have HO' := Lib.hid hown'
          have hB1 : Below w.heap.size w w1 := (hbel.alloc (by omega) _).grown hgrow (by simp; omega) (fun k hk => (HOWN.out.lt k hk).1)
          clear hown' hgrow
          go_wp2
          go_roundw
          case rel =>
            refine ⟨pos + n, done ++ [r], by go_num, hle', ?_, ?_, ?_, ?_, hB1⟩
            · have := HO'.out
              rw [rcells_append, List.length_append]
              exact this
            · have hh := HREM.out
              rw [HMC.out, if_neg hn, Option.map_map] at hh
              rw [← hh]
              congr 1
              funext x
              simp
            · intro x hx
              rcases List.mem_append.1 hx with h1 | h1
              · exact HSC.out x h1
              · simp at h1; rw [h1]; exact HSR.out
            · simp; omega
          case measure => simp [intOf]; omega
      · have hh := Lib.hid (show mruns (L s) = some done by
          have := HREM.out
          rw [drop_end hp, mruns_nil] at this
          rw [← this]
          simp)
        have hA := Lib.hid (show decA (L s) = done.flatMap u8 by unfold decA; rw [hh.out, if_pos (by rw [← HSZ.out]; omega)]; rfl)
        have hE := Lib.hid (show decE (L s) = 0 by unfold decE; rw [hh.out, if_pos (by rw [← HSZ.out]; omega)]; rfl)
        have hcv : (convert 134 9 u4).run Try.prog wr = .ok (strV (done.flatMap u8)) wr := runes_owned HOWN.out HSC.out
        go_wp2
        go_ret2
        refine ⟨?_, hbel⟩
        rw [hA.out, hE.out]
        rfl
  · have hA := Lib.hid (show decA (L s) = [] by unfold decA; rw [if_neg (by omega)])
    have hE := Lib.hid (show decE (L s) = 2 by unfold decE; rw [if_neg (by omega)])
    clear hsz
    go_enter Try.func113, Try.ntmps113
    go_wp2
    go_ret2
    refine ⟨?_, Below.refl _ _⟩
    rw [hA.out, hE.out]
    rfl
end Go.Proofs.Ytcgloepfnnfioaa
