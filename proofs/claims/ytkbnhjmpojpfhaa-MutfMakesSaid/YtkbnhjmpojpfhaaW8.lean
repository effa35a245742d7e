/-
  WALKS of 'Make', 'Runes' and 'Name'.
-/
import Derived.Test.YtkbnhjmpojpfhaaW7
namespace Go.Proofs.Ytkbnhjmpojpfhaa
open Go.RowKit

/-- The slice value v reads as the runes zs. -/
def SlR (w : World) (v : Value) (zs : List Int) : Prop :=
  (v = .slice none 0 0 ∧ zs = []) ∨ ∃ b off cap, v = .slice (some ⟨b, off, none⟩) zs.length cap ∧ ∀ j, j < zs.length → w.cell? ⟨b, off + j, none⟩ = some (.int .i32 (zs.getD j 0))
theorem SlR_own {w : World} {base : Nat} {v : Value} {l : List Nat} (h : w.ownsRow base 21 1 v l.length (rcells l)) : SlR w v (l.map fun (r : Nat) => (r : Int)) := by
  rcases h.2 with ⟨rfl, hn⟩ | ⟨g, cap, cur, rfl, hb, hgg, rest⟩
  · have : l = [] := List.eq_nil_of_length_eq_zero hn
    subst this
    exact .inl ⟨rfl, rfl⟩
  · refine .inr ⟨g, 0, cap, by simp, ?_⟩
    intro j hj
    simp at hj
    have := h.cells (g := g) rfl j (.int .i32 ((l[j] : Nat) : Int)) (by simp [rcells, hj])
    have e : (({ block := g, off := 0 } : Addr).add j) = ⟨g, 0 + j, none⟩ := by simp [Addr.add]; intro h0; exact h0.symm
    rw [e] at this
    rw [this]
    simp [hj]
theorem convert_SlR {w : World} {v : Value} {zs : List Int} (h : SlR w v zs) : (convert 30 9 v).run Try.prog w = .ok (.string (runesBytes zs)) w := by
  rcases h with ⟨rfl, rfl⟩ | ⟨b, off, cap, rfl, hc⟩
  · exact run_convert_runes_nil w 30 9 21 0 0 Try.underlying30 Try.underlying21 Try.underlying9
  · have := run_convert_runes (P := Try.prog) w 30 9 21 ⟨b, off, none⟩ zs.length cap zs (Nat.le_refl _) Try.underlying30 Try.underlying21 Try.underlying9 (by
      intro j hj
      have e : (({ block := b, off := off } : Addr).add j) = ⟨b, off + j, none⟩ := by
        simp [Addr.add]
      rw [e]
      exact hc j hj)
    rw [this, List.take_of_length_le (Nat.le_refl _)]

def makA (zs : List Int) : ByteArray := if zs.all scalB then runesBytes zs else ⟨#[]⟩
def makE (zs : List Int) : Int := if zs.all scalB then 0 else 1
set_option maxRecDepth 1000000 in
set_option maxHeartbeats 800000 in
theorem Make_any (v : Value) (zs : List Int) (w : World) (hr : SlR w v zs) (hz : zs.length ≤ 9223372036854775807) :
    Calls Try.prog 22 #[v] w fun e w' => e = .returned (.tuple #[.string (makA zs), .int .i64 (makE zs)]) ∧ w = w' := by
  have hcv := convert_SlR hr
  rcases hr with ⟨rfl, rfl⟩ | ⟨b, off, cap, rfl, hc⟩
  · have hA : makA [] = ⟨#[]⟩ := rfl
    have hE : makE [] = 0 := rfl
    rw [hA, hE]
    have hcv' : (convert 30 9 (.slice none 0 0)).run Try.prog w = .ok (.string ⟨#[]⟩) w := hcv
    clear hcv hA hE
    go_enter Try.func22, Try.ntmps22
    go_wp2
    refine wp_loop_rounds 1 ?_
    rw [rounds_succ]
    go_wp2
    go_ret2
    exact ⟨rfl, rfl⟩
  · have HC := Lib.hid hc
    clear hc
    go_enter Try.func22, Try.ntmps22
    go_wp2
    go_loop [5, 8] (fun _ i => ∃ k : Nat, k ≤ zs.length ∧ i = .int .i64 k ∧ (zs.take k).all scalB = true) (fun _ i => zs.length - (intOf i).toNat)
    case atStart => exact ⟨0, Nat.zero_le _, rfl, by simp⟩
    case round =>
      obtain ⟨k, hk, rfl, hall⟩ := hrel
      have HALL := Lib.hid hall
      clear hall
      by_cases hlt : k < zs.length
      · have hcell := HC.out k hlt
        obtain ⟨z, hzk⟩ : ∃ z, zs.getD k 0 = z := ⟨_, rfl⟩
        rw [hzk] at hcell
        have htk : zs.take (k + 1) = zs.take k ++ [z] := by
          rw [List.take_succ_eq_append_getElem hlt]
          congr 2
          rw [← hzk]
          simp [List.getD, hlt]
        have HTK := Lib.hid htk
        clear hzk htk
        by_cases hs : scalB z = true
        · have HS := Lib.hid (scalar_true z w hs)
          have HSZ := Lib.hid hs
          clear hs
          go_wp2_with (go_at_call 34; refine HS.out.mono ?_; rintro e w' ⟨rfl, rfl⟩)
          go_round
          case rel =>
            refine ⟨k + 1, by omega, by go_num, ?_⟩
            rw [HTK.out, List.all_append, HALL.out]
            simp [HSZ.out]
          case measure => simp [intOf]; omega
        · have hs' : scalB z = false := by simpa using hs
          have HS := Lib.hid (scalar_false z w hs')
          have hno : zs.all scalB = false := by
            have : z ∈ zs := by
              have : z ∈ zs.take (k + 1) := by rw [HTK.out]; simp
              exact List.mem_of_mem_take this
            rw [List.all_eq_false]
            exact ⟨z, this, by simp [hs']⟩
          have HA := Lib.hid (show makA zs = ⟨#[]⟩ by unfold makA; rw [hno]; rfl)
          have HE := Lib.hid (show makE zs = 1 by unfold makE; rw [hno]; rfl)
          clear hs hs' hno
          go_wp2_with (go_at_call 34; refine HS.out.mono ?_; rintro e w' ⟨rfl, rfl⟩)
          go_ret2
          rw [HA.out, HE.out]
          exact ⟨rfl, rfl⟩
      · have hall : zs.all scalB = true := by
          have := HALL.out
          rwa [List.take_of_length_le (by omega)] at this
        have HA := Lib.hid (show makA zs = runesBytes zs by unfold makA; rw [hall]; rfl)
        have HE := Lib.hid (show makE zs = 0 by unfold makE; rw [hall]; rfl)
        clear hall
        go_wp2
        go_ret2
        rw [HA.out, HE.out]
        exact ⟨rfl, rfl⟩

set_option maxRecDepth 1000000 in
set_option maxHeartbeats 800000 in
theorem Runes_any (s : ByteArray) (w : World) (hs : s.size ≤ 1000000) :
    Calls Try.prog 19 #[.string s] w fun e w' => ∃ v, e = .returned v ∧ w'.ownsRow w.heap.size 21 1 v (runes (L s)).length (rcells (runes (L s))) ∧ Below w.heap.size w w' := by
  have HL := fun W => Lib.hid (Len_any s W (by unfold maxLen; omega))
  have hlen := runes_length_le (L s)
  rw [← size_L] at hlen
  obtain ⟨i0, hi, hz0, hz1, hz2⟩ := info_parts Try.info21
  obtain ⟨m, hm⟩ : ∃ m, (runes (L s)).length = m := ⟨_, rfl⟩
  have HM := Lib.hid hm
  rw [hm] at hlen HL ⊢
  clear hm
  go_enter Try.func19, Try.ntmps19
  go_wp2_with fail
  refine (HL w).out.mono ?_
  rintro e w1 ⟨rfl, p1, rfl⟩
  have hw1 : w.heap.size ≤ (w.iter s p1).heap.size := by simp [World.iter]
  have hB1 : Below w.heap.size w (w.iter s p1) := (Below.refl _ _).alloc (Nat.le_refl _) _
  generalize w.iter s p1 = w1 at *
  go_wp2_with (at_make; refine wpList_make_own _ rfl _ _ 30 rfl w.heap.size 21 i0 (.int .i32 0) 1 Try.underlying30 hi hz0 hz1 _ _ _ m rfl rfl rfl ?b1 ?b2 ?b3 ?_)
  case b1 => rw [hz2]; omega
  case b2 => unfold maxLen; omega
  case b3 => omega
  intro w3 hown3 hg3
  have hB3 : Below w.heap.size w w3 := hB1.grown hg3 (by omega) (fun k hk => by simp at hk)
  have hs3 : w.heap.size ≤ w3.heap.size := Nat.le_trans hw1 hg3.size
  have HO3 := Lib.hid hown3
  clear hown3 hg3
  go_wp2
  go_loopw [3, 5] (fun v _ wr => ∃ (pos : Nat) (done : List Nat), wr.heap[w3.heap.size]? = some (Obj.stringIter s pos) ∧ wr.ownsRow w.heap.size 21 1 v done.length (rcells done) ∧ done ++ runes ((L s).drop pos) = runes (L s) ∧ Below w.heap.size w wr ∧ w3.heap.size < wr.heap.size) (fun _ _ wr => s.size - wr.iterPos w3.heap.size)
  case atStart =>
    refine ⟨0, [], World.iter_heap w3 s 0, ?_, by simp, ?_, by simp [World.iter]⟩
    · exact HO3.out.alloc _
    · exact hB3.alloc (by omega) _
  case round =>
    obtain ⟨pos, done, hit, hown, hrem, hbel, hsz⟩ := hrel
    have HIT := Lib.hid hit
    have HOWN := Lib.hid hown
    have HREM := Lib.hid hrem
    clear hown hrem
    by_cases hp : pos < s.size
    · obtain ⟨r, j, e1, _, hj, hjs, hsc, e2, _⟩ := step_at hp
      have E2 := Lib.hid e2
      have hnx : ∀ ty, (Instr.next (.pointer (some ⟨w3.heap.size, 0, none⟩)) true ty).run Try.prog wr = .ok (.tuple #[.bool true, .int .i64 pos, .int .i32 r]) (wr.iterAt w3.heap.size s (pos + j)) := by
        intro ty
        have := Lib.run_next_any_at (P := Try.prog) wr w3.heap.size s pos ty hit hp
        rw [e1] at this
        exact this
      have hpl : done.length ≤ 1000000 := by
        have a := congrArg List.length HREM.out
        have b := HM.out
        simp only [List.length_append] at a
        omega
      have hsi : (wr.iterAt w3.heap.size s (pos + j)).heap.size = wr.heap.size := Lib.iterAt_size _ _ _ _
      have HOI := Lib.hid (own_iterAt HOWN.out hit (pos + j))
      have hbi : Below w.heap.size w (wr.iterAt w3.heap.size s (pos + j)) := Lib.below_iterAt hbel (by omega) s (pos + j)
      have HITI := Lib.hid (Lib.iterAt_heap wr w3.heap.size s pos (pos + j) HIT.out)
      have hszi : w3.heap.size < (wr.iterAt w3.heap.size s (pos + j)).heap.size := by rw [hsi]; exact hsz
      generalize wr.iterAt w3.heap.size s (pos + j) = wi at *
      clear e1 e2 hit hsi
      go_wp2_with (at_builtin; refine wpList_append_own _ rfl (.tmp 14) (.tmp 16) 30 rfl w.heap.size 21 i0 (.int .i32 0) 1 4 Try.underlying30 hi hz0 hz1 hz2 rfl (by decide) _ _ _ rfl (HOI.out.alloc _) ⟨wi.heap.size, 0, none⟩ 1 1 [.int .i32 r] rfl rfl ?c1 ?c2 ?c3 ?c4 ?c5 ?_)
      case c1 => exact new_cells wi [.int .i32 (r : Int)] 21
      case c2 => exact int_cells .i32 [(r : Int)]
      case c3 => unfold maxLen; omega
      case c4 => omega
      case c5 => simp; omega
      intro v' w5 hown' hgrow _
      have HO' := Lib.hid hown'
      have HKI := Lib.hid (((KeptI.refl w.heap.size wi).alloc (by omega) (Obj.cells #[.int .i32 (r : Int)] 21)).trans (KeptI.grown (HOI.out.alloc _) (by simp; omega) hgrow))
      clear hown' hgrow
      go_wp2
      go_roundw
      case rel =>
        refine ⟨pos + j, done ++ [r], HKI.out.iter _ _ _ HITI.out, ?_, ?_, hbi.trans HKI.out.below, ?_⟩
        · have := HO'.out
          rw [rcells_append, List.length_append]
          exact this
        · rw [List.append_assoc, ← HREM.out, E2.out]
          rfl
        · have := HKI.out.below.size
          omega
      case measure =>
        rw [iterPos_of (HKI.out.iter _ _ _ HITI.out), iterPos_of HIT.out]
        omega
    · have hnx : ∀ ty, (Instr.next (.pointer (some ⟨w3.heap.size, 0, none⟩)) true ty).run Try.prog wr = .ok (.tuple #[.bool false]) wr := fun ty => Lib.run_next_end_at wr w3.heap.size s pos ty hit hp
      have hfin : done = runes (L s) := by
        have a := HREM.out
        rw [drop_end hp, runes_nil, List.append_nil] at a
        exact a
      have HFIN := Lib.hid hfin
      clear hit hfin
      go_wp2
      go_ret
      refine ⟨u3, rfl, ?_, hbel⟩
      rw [← HFIN.out, ← HM.out, ← HFIN.out]
      exact HOWN.out

def nameGo (k : Nat) (rs : List Nat) : Bool := decide (rs.length + k ≤ 64) && rs.all fun (r : Nat) => nameB (r : Int)
def nameL (l : List UInt8) : Bool := nameGo 0 (runes l) && decide (0 < (runes l).length) && validL l
theorem nameGo_cons (k r : Nat) (rs : List Nat) : nameGo k (r :: rs) = (nameB (r : Int) && nameGo (k + 1) rs) := by
  unfold nameGo
  rw [Bool.eq_iff_iff]
  simp only [List.length_cons, List.all_cons, Bool.and_eq_true, decide_eq_true_eq]
  constructor
  · rintro ⟨a, b, c⟩; exact ⟨b, by omega, c⟩
  · rintro ⟨a, b, c⟩; exact ⟨by omega, a, c⟩
theorem nameRune_true (r : Int) (w : World) (h : nameB r = true) : Calls Try.prog 36 #[.int .i32 r] w fun e w' => e = .returned (.bool true) ∧ w = w' := by
  have := nameRune_any r w
  rwa [h] at this
theorem nameRune_false (r : Int) (w : World) (h : nameB r = false) : Calls Try.prog 36 #[.int .i32 r] w fun e w' => e = .returned (.bool false) ∧ w = w' := by
  have := nameRune_any r w
  rwa [h] at this
set_option maxRecDepth 1000000 in
set_option maxHeartbeats 800000 in
theorem Name_any (s : ByteArray) (w : World) :
    Calls Try.prog 24 #[.string s] w fun e w' => e = .returned (.bool (nameL (L s))) ∧ Below w.heap.size w w' := by
  go_enter Try.func24, Try.ntmps24
  go_wp2
  go_loopw [3, 5] (fun n _ w' => ∃ pos k : Nat, w' = w.iter s pos ∧ n = .int .i64 k ∧ k ≤ 64 ∧ nameGo k (runes ((L s).drop pos)) = nameGo 0 (runes (L s)) ∧ k + (runes ((L s).drop pos)).length = (runes (L s)).length) (fun _ _ w' => s.size - w'.iterPos w.heap.size)
  case atStart => exact ⟨0, 0, rfl, rfl, by omega, by simp, by simp⟩
  case round =>
    obtain ⟨pos, k, rfl, rfl, hk, hgo, hcnt⟩ := hrel
    have HGO := Lib.hid hgo
    have HC := Lib.hid hcnt
    clear hgo hcnt
    by_cases hp : pos < s.size
    · obtain ⟨r, j, e1, _, hj, hjs, hsc, e2, _⟩ := step_at hp
      have hnx : ∀ ty, (Instr.next (.pointer (some ⟨w.heap.size, 0, none⟩)) true ty).run Try.prog (w.iter s pos) = _ := fun ty => run_next_any w s pos ty hp
      rw [e1] at hnx
      have E2 := Lib.hid e2
      clear e1 e2
      by_cases h64 : k = 64
      · subst h64
        have hres := Lib.hid (show nameL (L s) = false by
          unfold nameL
          rw [← HGO.out, E2.out]
          have : nameGo 64 (r :: runes ((L s).drop (pos + j))) = false := by
            unfold nameGo
            rw [decide_eq_false (by simp), Bool.false_and]
          rw [this]
          rfl)
        go_wp2
        go_ret
        exact ⟨ret_bool hres.out.symm, (Below.refl _ _).alloc (Nat.le_refl _) _⟩
      · by_cases hnb : nameB (r : Int) = true
        · have HN := fun W => Lib.hid (nameRune_true (r : Int) W hnb)
          have HNB := Lib.hid hnb
          clear hnb
          go_wp2_with (go_at_call 36; refine (HN _).out.mono ?_; rintro e w' ⟨rfl, rfl⟩)
          go_roundw
          case rel =>
            refine ⟨pos + j, k + 1, rfl, by go_num, by omega, ?_, ?_⟩
            · rw [← HGO.out, E2.out, nameGo_cons, HNB.out, Bool.true_and]
            · have := HC.out
              rw [E2.out] at this
              simp only [List.length_cons] at this
              omega
          case measure => simp; omega
        · have hnb' : nameB (r : Int) = false := by simpa using hnb
          have HN := fun W => Lib.hid (nameRune_false (r : Int) W hnb')
          have hres := Lib.hid (show nameL (L s) = false by
            unfold nameL
            rw [← HGO.out, E2.out, nameGo_cons, hnb']
            rfl)
          clear hnb hnb'
          go_wp2_with (go_at_call 36; refine (HN _).out.mono ?_; rintro e w' ⟨rfl, rfl⟩)
          go_ret
          exact ⟨ret_bool hres.out.symm, (Below.refl _ _).alloc (Nat.le_refl _) _⟩
    · have hnx : ∀ ty, (Instr.next (.pointer (some ⟨w.heap.size, 0, none⟩)) true ty).run Try.prog (w.iter s pos) = _ := fun ty => run_next_end w s pos ty hp
      have hlen : k = (runes (L s)).length := by
        have := HC.out
        rw [drop_end hp, runes_nil] at this
        simpa using this
      have hgo1 : nameGo 0 (runes (L s)) = true := by
        rw [← HGO.out, drop_end hp, runes_nil]
        unfold nameGo
        simp; omega
      have hB := (Below.refl w.heap.size w).alloc (Nat.le_refl _) (Obj.stringIter s pos)
      have hB : Below w.heap.size w (w.iter s pos) := hB
      by_cases hk0 : k = 0
      · have hres := Lib.hid (show nameL (L s) = false by
          unfold nameL
          rw [← hlen, hk0]
          simp)
        subst hk0
        clear hlen hgo1
        go_wp2
        go_ret
        exact ⟨ret_bool hres.out.symm, hB⟩
      · have hres := Lib.hid (show nameL (L s) = validL (L s) by
          unfold nameL
          rw [← hlen, hgo1, decide_eq_true (by omega), Bool.true_and, Bool.true_and])
        have HV := Lib.hid (valid_any s (w.iter s pos))
        have hws : w.heap.size ≤ (w.iter s pos).heap.size := hB.size
        clear hlen hgo1
        go_wp2_with (go_at_call 27; refine HV.out.mono ?_; rintro e w' ⟨rfl, hb2⟩)
        go_ret
        exact ⟨ret_bool hres.out.symm, hB.trans (hb2.mono hws)⟩
end Go.Proofs.Ytkbnhjmpojpfhaa
