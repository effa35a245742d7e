/-
  PROVED: for any runes 'Make' answers just what the document's own answer does: the same text, or none (more than 20000 runes are passed by, as the statement says). No condition.
-/
import Derived.Test.YtkbnhjmpojpfhaaRows
import Derived.Test.YtkbnhjmpojpfhaaW13
import Derived.Test.YtkbnhjmpojpfhaaW10
import Derived.WalkKit
import Derived.ProofKit
import Derived.OpenShut
import Derived.ShutString
import Derived.ChangeOld
import Derived.Below
namespace Go.Proofs.Ytkbnhjmpojpfhaa.mutfMakes
open Go.ChangeShapes Go.WideShapes Go.ChangeAt Go.RowKit
open Go.ChangeMaps (open_string shut_string)
set_option linter.unusedVariables false

theorem own : ownKnob Try.prog.godebug = none := by kernel_rfl
theorem laidOut : laidOutB Try.prog = true := by kernel_rfl

/-- WHAT THE WALK IS TOLD OF A SLICE OF INTEGERS THAT CAME IN: it is nil; or it leads to a row of 'cap' cells, the numbers 'zs' (the first 'len' are its elements, the rest its spare room), each fitting its kind. -/
def IsRow (k : IntKind) (w : World) (a : Option Addr) (len cap : Nat) (zs : List Int) : Prop :=
  (a = none ∧ len = 0 ∧ cap = 0 ∧ zs = []) ∨
  ∃ x, a = some x ∧ len ≤ cap ∧ cap ≤ maxLen ∧ zs.length = cap ∧ (∀ i, i < zs.length → w.cell? (x.add i) = some (.int k (zs.getD i 0))) ∧ ∀ n ∈ zs, (Lit.int k n).wf = true

theorem mk_runes (zs : List Int) (h : zs.all scalB = true) : runesBytes zs = ⟨(mkA zs).toArray⟩ := by
  unfold mkA
  rw [if_pos h]
  induction zs with
  | nil => rfl
  | cons z zs ih =>
    rw [List.all_cons, Bool.and_eq_true] at h
    have hz := scalB_range h.1
    have hs : Scal z.toNat := by unfold Scal; omega
    have he := encode_u8 hs
    have e : ((z.toNat : Nat) : Int) = z := by omega
    rw [e] at he
    rw [runesBytes_cons, ih h.2, he, List.flatMap_cons]
    apply ByteArray.ext
    simp [utfZ]
theorem mk_same (zs : List Int) : makA zs = ⟨(mkA zs).toArray⟩ := by
  by_cases h : zs.all scalB = true
  · unfold makA
    rw [if_pos h]
    exact mk_runes zs h
  · unfold makA mkA
    rw [if_neg h, if_neg h]
theorem Make_empty (ao : Option Addr) (cap : Nat) (w : World) :
    Calls Try.prog 22 #[.slice ao 0 cap] w fun e w' => e = .returned (.tuple #[.string ⟨#[]⟩, .int .i64 0]) ∧ w = w' := by
  have hcv : (convert 30 9 (.slice ao 0 cap)).run Try.prog w = .ok (.string ⟨#[]⟩) w := by
    cases ao with
    | none => exact run_convert_runes_nil w 30 9 21 0 cap Try.underlying30 Try.underlying21 Try.underlying9
    | some a =>
      have := run_convert_runes (P := Try.prog) w 30 9 21 a 0 cap [] (Nat.le_refl _) Try.underlying30 Try.underlying21 Try.underlying9 (by intro j hj; simp at hj)
      exact this
  go_enter Try.func22, Try.ntmps22
  go_wp2
  refine wp_loop_rounds 1 ?_
  rw [rounds_succ]
  go_wp2
  go_ret2
  exact ⟨rfl, rfl⟩
theorem SlR_keep {w w' : World} {v : Value} {zs : List Int} (h : SlR w v zs) (hb : Below w.heap.size w w') : SlR w' v zs := by
  rcases h with h | ⟨b, off, cap, rfl, hc⟩
  · exact .inl h
  · exact .inr ⟨b, off, cap, rfl, fun j hj => by
      have e := hc j hj
      have hlt := World.block_lt_of_cell? w _ e
      rw [← e]
      exact hb.cell (p := ⟨b, off + j, none⟩) hlt⟩
/-- A slice of runes that came in: it has no element, or it leads to cells. -/
theorem row_cases {w : World} {a : Option Addr} {len cap : Nat} {zs : List Int} (h : IsRow .i32 w a len cap zs) :
    len = 0 ∨ ∃ b off, 0 < len ∧ a = some ⟨b, off, none⟩ ∧ len ≤ zs.length ∧ (∀ j, j < len → w.cell? ⟨b, off + j, none⟩ = some (.int .i32 (zs.getD j 0))) ∧ ∀ n ∈ zs, (Lit.int .i32 n).wf = true := by
  rcases h with ⟨_, h, _⟩ | ⟨x, rfl, hl, _, hz, hc, hw⟩
  · exact .inl h
  · by_cases h0 : len = 0
    · exact .inl h0
    · right
      obtain ⟨b, off, spot⟩ := x
      have hspot : spot = none := by simpa [Addr.add] using World.cell?_spot (hc 0 (by omega))
      subst hspot
      refine ⟨b, off, by omega, rfl, by omega, ?_, hw⟩
      intro j hj
      have := hc j (by omega)
      have e : (({ block := b, off := off } : Addr).add j) = ⟨b, off + j, none⟩ := by simp [Addr.add]
      rw [e] at this
      exact this
set_option maxRecDepth 1000000 in
set_option maxHeartbeats 1600000 in
theorem walk (a0 : Option Addr) (len0 cap0 : Nat) (z0 : List Int) (w : World) (w0 : IsRow .i32 w a0 len0 cap0 z0) :
    Calls Try.prog 6 #[.slice a0 len0 cap0] w fun e w' => e = .returned (.bool true) ∧ Below w.heap.size w w' := by
  rcases row_cases w0 with rfl | ⟨b, off, hpos, rfl, hlz, hc, hwf⟩
  · have HM := fun W => Lib.hid (Make_empty a0 cap0 W)
    have HN := fun W => Lib.hid (show Calls Try.prog 23 #[.slice none 0 0] W fun e w' => e = .returned (.tuple #[.string ⟨#[]⟩, .bool true]) ∧ Below W.heap.size W w' from refMake_any (.slice none 0 0) [] W (.inl ⟨rfl, rfl⟩) (by simp))
    clear w0
    go_enter Try.func6, Try.ntmps6
    go_wp2_with fail
    refine (shown_any _).mono ?_
    rintro e v1 ⟨rfl, hb1⟩
    have hs1 := hb1.size
    go_wp2
    refine wp_loop_rounds 1 ?_
    rw [rounds_succ]
    go_wp2_with fail
    refine (HM _).out.mono ?_
    rintro e v2 ⟨rfl, rfl⟩
    go_wp2_with fail
    refine (HN _).out.mono ?_
    rintro e v3 ⟨rfl, hb3⟩
    have hb3 := hb1.trans (hb3.mono hs1)
    clear hb1 hs1
    go_wp2
    go_ret
    exact ⟨rfl, hb3⟩
  · clear w0
    by_cases hl : len0 ≤ 20000
    · obtain ⟨zs, hzs⟩ : ∃ zs, z0.take len0 = zs := ⟨_, rfl⟩
      have hzl : zs.length = len0 := by rw [← hzs, List.length_take]; omega
      have hg : ∀ j, j < len0 → zs.getD j 0 = z0.getD j 0 := by
        intro j hj
        rw [← hzs]
        simp [List.getD, hj]
      have hc' : ∀ j, j < zs.length → w.cell? ⟨b, off + j, none⟩ = some (.int .i32 (zs.getD j 0)) := by
        intro j hj
        rw [hzl] at hj
        rw [hg j hj]
        exact hc j hj
      have hwf' : ∀ n ∈ zs, (Lit.int .i32 n).wf = true := fun n hn => hwf n (by rw [← hzs] at hn; exact List.mem_of_mem_take hn)
      subst hzl
      have HC := Lib.hid hc'
      have HW := Lib.hid hwf'
      have HS := Lib.hid (show SlR w (.slice (some ⟨b, off, none⟩) zs.length cap0) zs from .inr ⟨b, off, cap0, rfl, hc'⟩)
      clear hc hc' hwf hwf' hg hzs hlz
      obtain ⟨i0, hi, hz0, hz1, hz2⟩ := info_parts Try.info3
      go_enter Try.func6, Try.ntmps6
      go_wp2_with fail
      refine (shown_any _).mono ?_
      rintro e v1 ⟨rfl, hb1⟩
      have hs1 := hb1.size
      go_wp2
      go_loopw [4, 5] (fun v i wr => ∃ k : Nat, k ≤ zs.length ∧ i = .int .i64 k ∧ wr.ownsRow v1.heap.size 3 1 v (zs.take k).length (icells (zs.take k)) ∧ Below v1.heap.size v1 wr) (fun _ i _ => zs.length - (intOf i).toNat)
      case atStart => exact ⟨0, Nat.zero_le _, rfl, World.ownsRow_nil _ _ _ _, Below.refl _ _⟩
      case round =>
        obtain ⟨k, hk, rfl, hown, hbel⟩ := hrel
        have HOWN := Lib.hid hown
        have hbs := hbel.size
        have hB := hb1.trans (hbel.mono hs1)
        clear hown
        by_cases hlt : k < zs.length
        · have hcell0 := HC.out k hlt
          have hblt := World.block_lt_of_cell? w _ hcell0
          have hcell : wr.cell? ⟨b, off + k, none⟩ = some (.int .i32 (zs.getD k 0)) := by
            rw [← hcell0]
            exact hB.cell (p := ⟨b, off + k, none⟩) hblt
          have HTK := Lib.hid (take_next hlt)
          have hzb : (Lit.int .i32 (zs.getD k 0)).wf = true := HW.out _ (by simp only [List.getD, List.getElem?_eq_getElem hlt, Option.getD_some]; exact List.getElem_mem hlt)
          obtain ⟨z, hzk⟩ : ∃ z, zs.getD k 0 = z := ⟨_, rfl⟩
          rw [hzk] at hcell HTK hzb
          obtain ⟨zb1, zb2⟩ := bounds_i32 hzb
          have hkl : (zs.take k).length ≤ 20000 := by rw [List.length_take]; omega
          clear hzk hcell0 hblt hzb
          go_wp2_with (at_builtin; refine wpList_append_own _ rfl (.tmp 23) (.tmp 29) 27 rfl v1.heap.size 3 i0 (.int .i64 0) 1 8 Try.underlying27 hi hz0 hz1 hz2 rfl (by decide) _ _ _ rfl (HOWN.out.alloc _) ⟨wr.heap.size, 0, none⟩ 1 1 [.int .i64 z] rfl rfl ?c1 ?c2 ?c3 ?c4 ?c5 ?_)
          case c1 => exact new_cells wr [.int .i64 z] 3
          case c2 => exact int_cells .i64 [z]
          case c3 => unfold maxLen; omega
          case c4 => omega
          case c5 => simp; omega
          intro v' w5 hown' hgrow _
          have HO' := Lib.hid hown'
          have hB5 : Below v1.heap.size v1 w5 := (hbel.alloc (by omega) _).grown hgrow (by simp; omega) (fun k hk => (HOWN.out.lt k hk).1)
          clear hown' hgrow
          go_wp2
          go_roundw
          case rel =>
            refine ⟨k + 1, by omega, by go_num, ?_, hB5⟩
            have hkl' : (zs.take k).length = k := by rw [List.length_take]; omega
            rw [HTK.out, icells_append, List.length_append, hkl']
            exact HO'.out
          case measure => simp [intOf]; omega
        · have hO := HOWN.out
          rw [List.take_of_length_le (by omega)] at hO
          have hA := Make_any (.slice (some ⟨b, off, none⟩) zs.length cap0) zs wr (SlR_keep HS.out hB) (by omega)
          have hR := refMake_any u4 zs wr (SlI_own hO) (by omega)
          have e1 := mk_same zs
          rw [e1] at hA
          have HA := Lib.hid (show Calls Try.prog 22 #[.slice (some ⟨b, off, none⟩) zs.length cap0] wr fun e w' => e = .returned (.tuple #[.string ⟨(mkA zs).toArray⟩, .int .i64 (makE zs)]) ∧ wr = w' from hA)
          have HR := Lib.hid (show Calls Try.prog 23 #[u4] wr fun e w' => e = .returned (.tuple #[.string ⟨(mkA zs).toArray⟩, .bool (zs.all scalB)]) ∧ Below wr.heap.size wr w' from hR)
          have hE : (zs.all scalB = true ∧ makE zs = 0) ∨ (zs.all scalB = false ∧ makE zs = 1) := by
            unfold makE
            cases zs.all scalB <;> simp
          have hBs := hB.size
          clear hO hA hR e1
          generalize (⟨(mkA zs).toArray⟩ : ByteArray) = tt at *
          generalize zs.all scalB = bb at *
          generalize makE zs = ee at *
          rcases hE with ⟨rfl, rfl⟩ | ⟨rfl, rfl⟩
          all_goals
            go_wp2_with fail
            refine HA.out.mono ?_
            rintro e v2 ⟨rfl, rfl⟩
            go_wp2_with fail
            refine HR.out.mono ?_
            rintro e v3 ⟨rfl, hb3⟩
            have hb3 := hB.trans (hb3.mono hBs)
            go_wp2
            go_ret
            exact ⟨rfl, hb3⟩
    · go_enter Try.func6, Try.ntmps6
      go_wp2_with fail
      refine (shown_any _).mono ?_
      rintro e v1 ⟨rfl, hb1⟩
      have hs1 := hb1.size
      go_wp2
      go_ret
      exact ⟨rfl, hb1⟩

set_option maxRecDepth 100000 in
theorem lifted (os : Os) (started : os.Started) (H : Type) (enc : TypeId × Value → H) :
    ReturnsInHanded {} Try.checked os 6 .any (Rows.mutfMakesSpec.pre6 enc Try.prog Try.f6 Rows.mutfMakesRow.domain false) (Rows.mutfMakesSpec.post enc Try.prog Try.f6 false true false false) := by
  refine returnsInHanded_of_change (C := Try.checked) own started (by kernel_rfl) Try.func6
    (ChangeSpec.witness6 (enc := enc) (C := Try.checked) false ⟨#[], #[.slice none 0 0], []⟩ 8 (by kernel_rfl) (by kernel_rfl) (by kernel_rfl) (by kernel_rfl)) ?_
  intro W base args ds gs before hval0 hW hcnd _
  have hval : ∀ (j : Nat) t v, Try.f6.params[j]? = some t → args[j]? = some v → Value.okWide Try.prog W .any base t v := hval0
  have hW' := hW
  obtain ⟨p, q, hA0, hV, rfl, hfz, hnd⟩ := hW
  have hA : DataW.TrodAll enc Try.prog W 0 (fun _ => true) true Try.f6.params.toList args.toList ds p := hA0
  rw [Try.params6] at hA hval
  obtain ⟨v0, vs0, d0, ds0, p0, q0, hargs, rfl, rfl, h0, r0⟩ := trodAll_cons hA
  obtain ⟨rfl, rfl, rfl⟩ := trodAll_nil r0
  obtain rfl : args = #[v0] := by cases args; simp_all
  obtain ⟨rfl, rfl⟩ := trodVars_none hV
  obtain ⟨a0, len0, cap0, rfl⟩ := okWide_slice Try.underlying30 (hval 0 30 v0 rfl rfl)
  have k0 := h0
  have lt0 : ∀ x ∈ p0, x.block < W.heap.size := by obtain ⟨m, hm⟩ := k0; exact DataW.trod_lt m _ _ _ hm
  obtain ⟨z0, w0⟩ : ∃ zs, IsRow .i32 W a0 len0 cap0 zs := by
    obtain ⟨fuel, hf⟩ := h0
    rcases open_ints Try.underlying30 Try.underlying21 (by kernel_rfl) hf with ⟨hcs, _⟩ | ⟨x, l, c, zs, hcs, _, hl, hm, hz, _, hcell, hwz⟩
    · simp [Value.cells] at hcs
      obtain ⟨rfl, rfl, rfl⟩ := hcs
      exact ⟨[], .inl ⟨rfl, rfl, rfl, rfl⟩⟩
    · simp [Value.cells] at hcs
      obtain ⟨rfl, rfl, rfl⟩ := hcs
      exact ⟨zs, .inr ⟨_, rfl, hl, hm, by simpa using hz, hcell, hwz⟩⟩
  clear hA0 hval0
  refine (walk a0 len0 cap0 z0 W w0).mono fun e W' ⟨he, bel⟩ => ?_
  subst he
  exact ⟨_, rfl, _, _, _, [], _, [], hW', trodAll_mk1 (shut_bool Try.underlying4 _), (trodAll_cons_mk (Below.trod laidOut (by kernel_rfl) (of_decide_eq_true (by kernel_rfl)) k0 bel lt0) trodAll_mk0), rfl, bel.frame _, fun h => by cases h⟩

theorem over : Rows.mutfMakesRow.holds Try.pinned (OpenSpec.ofChange Rows.mutfMakesSpec) :=
  OpenClaim.holds_of_wide 6 Try.f6 rfl rfl rfl rfl rfl rfl rfl ⟨rfl, rfl, rfl, rfl, rfl⟩ rfl rfl rfl rfl rfl (by kernel_rfl) Try.func6 (by kernel_rfl)
    (of_decide_eq_true (by kernel_rfl)) (by unfold Func.isWrapper; first | (rw [if_pos (by decide +kernel)]; kernel_rfl) | (rw [if_neg (by decide +kernel)]; exact ⟨rfl, rfl⟩))
    (fun os started H enc _ => lifted os started H enc)

theorem proved : Rows.MutfMakesSaid := over
end Go.Proofs.Ytkbnhjmpojpfhaa.mutfMakes
