/-
  CUT and joined from the texts of this seat: He Hs Hi Hl Hx
-/
import Derived.Test.YtmaknddlgppinaaGreatDoorX04
import Derived.Test.YtmaknddlgppinaaGreatDoorX02
import Derived.Test.YtmaknddlgppinaaGreatDoorX03
import Derived.Deep.RegionHeld3
import Derived.StillTailTactics
import Derived.Deep.LoopGhost
import Derived.Deep.RegionLaw
set_option linter.unusedVariables false
set_option linter.unusedSimpArgs false
/-! He -/
namespace Go.Proofs.YtmaknddlgppinaaGreatDoor
open Go.RowKit

theorem made_map (w : World) : (Instr.makeMap 110 none).run Tryz.prog w = .ok (.map (some w.heap.size)) (w.alloc (.map #[] 0)) := by
  have h : Tryz.prog.underlying 110 = some (.map 9 108) := by kernel_rfl
  simp [Instr.makeMap, run_underlying h]
theorem hheap_at (w : World) (o : Obj) (b : Nat) (h : b = w.heap.size) : (w.alloc o).heap[b]? = some o := by
  subst h
  exact hheap_new w o
theorem ownsMap_obj {w : World} {b m : Nat} {D : DataW Value} (h : w.ownsMap Tryz.prog 9 PR b m D) : ∃ es n, w.heap[b]? = some (.map es n) := by
  obtain ⟨es, clock, hb, _⟩ := h
  exact ⟨es, clock, hb⟩
theorem own_grown_map {w w' : World} {base mb : Nat} {e : TypeId} {size : Nat} {v : Value} {n : Nat} {xs : List Value} (h : w.ownsRow base e size v n xs) (hm : ∃ es n, w.heap[mb]? = some (.map es n)) (hg : w.grownBy w' (some mb)) : w'.ownsRow base e size v n xs := by
  obtain ⟨es, k, hm⟩ := hm
  have := hown_ne_map h hm
  exact h.kept hg (by
    cases hv : v.ownBlock with
    | none => exact .inl rfl
    | some g => rw [hv] at this; exact .inr this)
theorem ownsMap_below {w w' : World} {b m B : Nat} {D : DataW Value} (h : w.ownsMap Tryz.prog 9 PR b m D) (hb : Below B w w') (hlt : b < B) : w'.ownsMap Tryz.prog 9 PR b m D := by
  obtain ⟨es, clock, h1, h2⟩ := h
  exact ⟨es, clock, (hb.block b hlt).trans h1, h2⟩
theorem qlt_alloc {W : World} {q : Nat} (h : q < W.heap.size) (o : Obj) : q < (W.alloc o).heap.size := by simp; omega
theorem qkeepc {W w' : World} {q i : Nat} {v : Value} (hb : Below W.heap.size W w') (hq : q < W.heap.size) (h : W.cell? ⟨q, i, none⟩ = some v) : w'.cell? ⟨q, i, none⟩ = some v :=
  (hb.cell (p := ⟨q, i, none⟩) hq).trans h
set_option maxRecDepth 1000000 in
set_option maxHeartbeats 6400000 in
theorem extended_walk {tb : Nat} {v : Value} {pm : Option Nat} {n : Nat} {o : Int} {cs : List PC} {cl : Nat → Nat} {w : World} (t0 : w.heap[tb]? = some (.cells #[v, .map pm, .int .i64 o] 112 (0, 0)))
    (hs : ∃ A c, v = .slice A n c)
    (hn : n = cs.length) (hfew : cs.length ≤ 1000)
    (keyc : ∀ W nb, W.ownsMap Tryz.prog 9 PR nb 0 (.map []) → w.heap.size ≤ nb → Below w.heap.size w W → Calls Tryz.prog 104 #[.map (some nb), .map pm] W fun e w' => e = .returned (.tuple #[]) ∧ TMap nb cs cl w' ∧ W.grownBy w' (some nb))
    (key : ∀ W, Below w.heap.size w W → Calls Tryz.prog 103 #[v] W fun e w' => ∃ v', e = .returned v' ∧ w'.ownsRow W.heap.size 108 1 v' n (ptrs cl n) ∧ Below W.heap.size W w') :
    Calls Tryz.prog 78 #[.pointer (some ⟨tb, 0, none⟩)] w fun e w' => ∃ nb mb, e = .returned (.pointer (some ⟨nb, 0, none⟩)) ∧ AT w.heap.size nb mb n cs cl w' ∧ Below w.heap.size w w' := by
  obtain ⟨A, c, rfl⟩ := hs
  have KEY := Lib.hid key
  have KEYC := Lib.hid keyc
  have HN := Lib.hid hn
  have c0 : w.cell? ⟨tb, 0, none⟩ = some (.slice A n c) := by rw [kcells_of t0]; rfl
  have c1 : w.cell? ⟨tb, 1, none⟩ = some (.map pm) := by rw [kcells_of t0]; rfl
  have hlt := lt_of_block t0
  have hmk := made_map
  have HT := Lib.hid t0
  clear key keyc t0 hn
  go_enter Tryz.func78, Tryz.ntmps78
  go_wp2
  go_region_held3 (fun w' => w'.cell? ⟨tb, 0, none⟩ = some (.slice A n c) ∧ w'.cell? ⟨tb, 1, none⟩ = some (.map pm) ∧ tb < w'.heap.size ∧ Below w.heap.size w w')
    (first
      | exact ⟨c0, c1, hlt, (Below.refl _ _).drew⟩
      | (go_split_ands
         refine ⟨?_, ?_, ?_, ?_⟩
         all_goals first
           | assumption
           | exact qkeepc hb (by omega) (by assumption)
           | exact Nat.lt_of_lt_of_le (by assumption) hb.size
           | exact Below.hlink (by assumption) hb
           | exact (World.cell?_alloc_lt _ _ _ (by show tb < _; omega)).trans (by assumption)
           | exact qlt_alloc (by assumption) _
           | exact Below.alloc (by assumption) (Below.size (by assumption)) _))
    ((go_at_call 103; refine (KEY.out _ (by first | assumption | (go_split_ands; assumption) | exact (Below.refl _ _).drew)).mono ?_; rintro e wi ⟨v', rfl, hown, hb⟩; obtain ⟨a2, c2, rfl⟩ := hown_form hown))
  · obtain ⟨F, hF⟩ : ∃ F, F = (wi.alloc (.map #[] 0)).alloc (.cells #[.slice a2 n c2, .map (some wi.heap.size), .int .i64 (n : Int)] 112) := ⟨_, rfl⟩
    have hfa : F.heap[wi.heap.size + 1]? = some (.cells #[.slice a2 n c2, .map (some (wi.heap.size)), .int .i64 (n : Int)] 112 (0, 0)) := by rw [hF]; exact hheap_at _ _ _ (by simp)
    have hfm : F.ownsMap Tryz.prog 9 PR (wi.heap.size) 0 (.map []) := by rw [hF]; exact (World.ownsMap_made wi _ _ _).alloc _
    have hfo : F.ownsRow w.heap.size 108 1 (.slice a2 n c2) n (ptrs cl n) := by rw [hF]; exact (hown.alloc _).alloc _
    have hfb : Below w.heap.size w F := by rw [hF]; exact (Below.hlink (Below.refl _ _).drew hb |>.alloc (by have := hb.size; exact this) _).alloc (by have := hb.size; simp at this; simp; omega) _
    rw [← hF]
    have hft : F.cell? ⟨tb, 1, none⟩ = some (.map pm) := qkeepc hfb hlt c1
    have hf1 : F.cell? ⟨wi.heap.size + 1, 1, none⟩ = some (.map (some (wi.heap.size))) := by rw [kcells_of hfa]; rfl
    have hms : w.heap.size ≤ wi.heap.size := by have := hb.size; exact this
    have hns : w.heap.size ≤ wi.heap.size + 1 := by have := hb.size; simp at this; omega
    have hne : wi.heap.size + 1 ≠ wi.heap.size := by omega
    have K2 := Lib.hid (KEYC.out F.drew _ hfm.drew hms hfb.drew)
    have FA := Lib.hid hfa
    have FO := Lib.hid hfo
    have FB := Lib.hid hfb
    have FM := Lib.hid (ownsMap_obj hfm)
    clear hF hfa hfm hfo hfb
    go_wp2
    refine wp_region_still_tail 8 (by kernel_rfl) (by kernel_rfl) ?_
    change wpStill _ _ F.drew _ _ _
    simp only [List.take_succ_cons, List.take_zero, List.drop_succ_cons, List.drop_zero]
    repeat still_step
    refine wpStill_nil ?_
    change wpList _ _ _ _ _ F.drew
    go_wp2_with fail
    refine K2.out.mono ?_
    rintro e w' ⟨rfl, hm, hg⟩
    have HM := Lib.hid hm
    have HG := Lib.hid hg
    clear hm hg
    go_wp2
    go_ret
    have hz := HG.out.size
    have hbel := Below.grown FB.out.drew HG.out FB.out.size (fun k hk => by cases hk; exact hms)
    have hbs := hbel.size
    refine ⟨_, _, rfl, ⟨hfew, hbs, hns, hms, HM.out, _, (HG.out.block _ (lt_of_block FA.out) (fun e => hne (Option.some.inj e))).trans FA.out, ?_⟩, hbel⟩
    rw [← HN.out]
    exact own_grown_map (w := F.drew) FO.out FM.out HG.out
  · obtain ⟨F, hF⟩ : ∃ F, F = wi.alloc (.cells #[.slice a2 n c2, .map (some w.heap.size), .int .i64 (n : Int)] 112) := ⟨_, rfl⟩
    have hfa : F.heap[wi.heap.size]? = some (.cells #[.slice a2 n c2, .map (some (w.heap.size)), .int .i64 (n : Int)] 112 (0, 0)) := by rw [hF]; exact hheap_at _ _ _ (by simp)
    have hfm : F.ownsMap Tryz.prog 9 PR (w.heap.size) 0 (.map []) := by rw [hF]; exact (ownsMap_below (w := (w.alloc (.map #[] 0)).drew) (World.ownsMap_made w _ _ _) hb (by show w.heap.size < (w.alloc _).heap.size; simp)).alloc _
    have hfo : F.ownsRow w.heap.size 108 1 (.slice a2 n c2) n (ptrs cl n) := by rw [hF]; exact (hown_mono hown (by simp)).alloc _
    have hfb : Below w.heap.size w F := by rw [hF]; exact Below.alloc (((Below.refl w.heap.size w).alloc (Nat.le_refl _) _).drew.trans (hb.mono (by simp))) (by have := hb.size; simp at this; omega) _
    rw [← hF]
    have hft : F.cell? ⟨tb, 1, none⟩ = some (.map pm) := qkeepc hfb hlt c1
    have hf1 : F.cell? ⟨wi.heap.size, 1, none⟩ = some (.map (some (w.heap.size))) := by rw [kcells_of hfa]; rfl
    have hms : w.heap.size ≤ w.heap.size := by exact Nat.le_refl _
    have hns : w.heap.size ≤ wi.heap.size := by have := hb.size; simp at this; omega
    have hne : wi.heap.size ≠ w.heap.size := by have := hb.size; simp at this; omega
    have K2 := Lib.hid (KEYC.out F.drew _ hfm.drew hms hfb.drew)
    have FA := Lib.hid hfa
    have FO := Lib.hid hfo
    have FB := Lib.hid hfb
    have FM := Lib.hid (ownsMap_obj hfm)
    clear hF hfa hfm hfo hfb
    go_wp2
    refine wp_region_still_tail 8 (by kernel_rfl) (by kernel_rfl) ?_
    change wpStill _ _ F.drew _ _ _
    simp only [List.take_succ_cons, List.take_zero, List.drop_succ_cons, List.drop_zero]
    repeat still_step
    refine wpStill_nil ?_
    change wpList _ _ _ _ _ F.drew
    go_wp2_with fail
    refine K2.out.mono ?_
    rintro e w' ⟨rfl, hm, hg⟩
    have HM := Lib.hid hm
    have HG := Lib.hid hg
    clear hm hg
    go_wp2
    go_ret
    have hz := HG.out.size
    have hbel := Below.grown FB.out.drew HG.out FB.out.size (fun k hk => by cases hk; exact hms)
    have hbs := hbel.size
    refine ⟨_, _, rfl, ⟨hfew, hbs, hns, hms, HM.out, _, (HG.out.block _ (lt_of_block FA.out) (fun e => hne (Option.some.inj e))).trans FA.out, ?_⟩, hbel⟩
    rw [← HN.out]
    exact own_grown_map (w := F.drew) FO.out FM.out HG.out
theorem extended_any {B tb mb cap ow : Nat} {A : Option Addr} {cs : List PC} {cl sl : Nat → Nat} {S : Nat → List Nat} {w : World} (h : HT B tb mb A cap ow cs cl sl S w) :
    Calls Tryz.prog 78 #[.pointer (some ⟨tb, 0, none⟩)] w fun e w' => ∃ nb mb', e = .returned (.pointer (some ⟨nb, 0, none⟩)) ∧ AT w.heap.size nb mb' cs.length cs cl w' ∧ Below w.heap.size w w' := by
  have hf := h.tab.few
  refine extended_walk h.t0 ⟨_, _, rfl⟩ rfl hf (fun W nb ho hge hb => ?_) (fun W hb => ?_)
  · have hm := h.map.same (hb.block mb h.map.lt)
    refine copy_any hm ho (fun e => ?_) hf
    have := h.map.lt
    omega
  · refine clonePtr_any (B := w.heap.size) (Row.keep (h.all.more h.hB) fun p hp => hb.cell hp) (fun h0 => ?_) hf
    have := h.good.pos
    omega
theorem extended_nil {tb : Nat} (cl : Nat → Nat) {w : World} (t0 : w.heap[tb]? = some (.cells #[.slice none 0 0, .map none, .int .i64 0] 112 (0, 0))) :
    Calls Tryz.prog 78 #[.pointer (some ⟨tb, 0, none⟩)] w fun e w' => ∃ nb mb', e = .returned (.pointer (some ⟨nb, 0, none⟩)) ∧ AT w.heap.size nb mb' 0 [] cl w' ∧ Below w.heap.size w w' := by
  refine extended_walk (cs := []) t0 ⟨_, _, rfl⟩ rfl (by simp) (fun W nb ho hge hb => ?_) (fun W hb => ?_)
  · refine copy_nil.mono ?_
    rintro e w' ⟨rfl, rfl⟩
    exact ⟨rfl, ⟨0, .map [], by simp, ho.alloc _, fun nm => rfl⟩, World.grownBy_alloc _ _ _⟩
  · exact clonePtr_any (B := W.heap.size) Row.nil (fun _ => rfl) (by simp)
end Go.Proofs.YtmaknddlgppinaaGreatDoor
/-! Hs -/
namespace Go.Proofs.YtmaknddlgppinaaGreatDoor
open Go.RowKit

set_option maxRecDepth 1000000 in
set_option maxHeartbeats 1600000 in
theorem isClass_any {c : Nat} {k : KC} {w : World} (hc : KAt c k w) :
    Calls Tryz.prog 110 #[.pointer (some ⟨c, 0, none⟩)] w fun e w' => e = .returned (.bool (!k.iface)) ∧ w' = w := by
  have c3 : w.cell? ⟨c, 3, none⟩ = some (.bool k.iface) := hc.cell 3
  generalize k.iface = x at *
  clear hc
  go_enter Tryz.func110, Tryz.ntmps110
  go_wp2
  go_ret
  exact ⟨rfl, rfl⟩
theorem beq_eq_decide (a b : List UInt8) : (a == b) = decide (a = b) := by
  by_cases h : a = b <;> simp [h]
set_option maxRecDepth 1000000 in
set_option maxHeartbeats 1600000 in
theorem isSealed_any (s : ByteArray) (w : World) :
    Calls Tryz.prog 108 #[.string s] w fun e w' => e = .returned (.bool (decide (s.toList = strB ∨ s.toList = weakB ∨ s.toList = loadB))) ∧ w' = w := by
  go_enter Tryz.func108, Tryz.ntmps108
  go_wp2
  all_goals
    go_ret
    refine ⟨?_, rfl⟩
    refine congrArg (fun b => Ending.returned (Value.bool b)) (a₁ := _) ?_
    unfold strB weakB loadB
    first
      | (simp [*]; done)
      | (rename_i q1 q2
         rw [beq_eq_decide, beq_eq_decide, beq_eq_decide, decide_eq_false q1, decide_eq_false q2]
         simp [q1, q2])
end Go.Proofs.YtmaknddlgppinaaGreatDoor
/-! Hi -/
namespace Go.Proofs.YtmaknddlgppinaaGreatDoor
open Go.RowKit

/-- Where the first of n stands that g says yes to. -/
def FirstOf (g : Nat → Bool) (n : Nat) (r : Int) : Prop :=
  (∃ j : Nat, r = j ∧ j < n ∧ g j = true ∧ ∀ i, i < j → g i = false) ∨ (r = -1 ∧ ∀ i, i < n → g i = false)
theorem FirstOf.dec {g : Nat → Bool} {n : Nat} {r : Int} (h : FirstOf g n r) : decide (0 ≤ r) = true ↔ ∃ i, i < n ∧ g i = true := by
  rcases h with ⟨j, rfl, hj, hg, _⟩ | ⟨rfl, hn⟩
  · simp; exact ⟨j, hj, hg⟩
  · simp; exact fun i hi => hn i hi
theorem none_next {g : Nat → Bool} {j : Nat} (h : ∀ i, i < j → g i = false) (hj : g j = false) : ∀ i, i < j + 1 → g i = false := fun i hi => by
  rcases Nat.lt_or_eq_of_le (Nat.le_of_lt_succ hi) with h1 | rfl
  · exact h i h1
  · exact hj
set_option maxRecDepth 1000000 in
set_option maxHeartbeats 6400000 in
theorem indexFunc110 {n : Nat} {B : Nat} {v : Value} {xs : List Value} {g : Nat → Bool} {w : World} (hr : Row B 1 w v n xs)
    (key : ∀ j x, xs[j]? = some x → ∀ m, Calls Tryz.prog 110 #[x] (w.drewN m) fun e w' => e = .returned (.bool (g j)) ∧ ∃ m', w' = w.drewN m') :
    Calls Tryz.prog 82 #[v, .func (.func 110) #[] #[]] w fun e w' => ∃ r : Int, e = .returned (.int .i64 r) ∧ FirstOf g n r ∧ ∃ m, w' = w.drewN m := by
  obtain ⟨A, cap, rfl, hcap, hmax, hlen, hc⟩ := hr
  unfold maxLen at hmax
  have KEY := Lib.hid key
  have HL := Lib.hid hlen
  have HC := Lib.hid hc
  clear key hlen hc
  go_enter Tryz.func82, Tryz.ntmps82
  go_wp2
  go_loopg [8] n (fun gk iv wx => ∃ j : Nat, iv = .int .i64 j ∧ j + gk = n ∧ (∀ i, i < j → g i = false) ∧ ∃ m, wx = w.drewN m)
  case atStart => exact ⟨0, rfl, by omega, fun i hi => absurd hi (by omega), 0, rfl⟩
  case round =>
    obtain ⟨j, rfl, hjg, hall, m, rfl⟩ := hrel
    have HALL := Lib.hid hall
    clear hall
    by_cases hj : j < n
    · have hgg : gk - 1 < gk := by omega
      obtain ⟨b, o, rfl, hb, hcell⟩ := HC.out (by omega)
      obtain ⟨x, hx⟩ : ∃ x, xs[j]? = some x := ⟨_, List.getElem?_eq_getElem (by have := HL.out; omega)⟩
      have c0 : (w.drewN m).cell? ⟨b, o + j, none⟩ = some x := hcell j x hx
      have K := Lib.hid (KEY.out j x hx m)
      clear hcell hx
      go_wp2_with fail
      refine K.out.mono ?_
      rintro e w1 ⟨rfl, m', rfl⟩
      clear c0
      cases hg : g j with
      | true =>
        have HG := Lib.hid hg
        clear hg
        go_wp2
        go_ret
        exact ⟨_, rfl, .inl ⟨j, rfl, hj, HG.out, HALL.out⟩, m', rfl⟩
      | false =>
        have HG := Lib.hid hg
        clear hg
        go_wp2
        go_roundg (gk - 1)
        case measure => exact hgg
        case rel => exact ⟨j + 1, by go_num, by omega, none_next HALL.out HG.out, m', rfl⟩
    · obtain rfl : n = j := by omega
      go_wp2
      go_ret
      exact ⟨_, rfl, .inr ⟨rfl, HALL.out⟩, m, rfl⟩
set_option maxRecDepth 1000000 in
set_option maxHeartbeats 6400000 in
theorem containsFunc110 {n : Nat} {B : Nat} {v : Value} {xs : List Value} {g : Nat → Bool} {w : World} (hr : Row B 1 w v n xs)
    (key : ∀ j x, xs[j]? = some x → ∀ m, Calls Tryz.prog 110 #[x] (w.drewN m) fun e w' => e = .returned (.bool (g j)) ∧ ∃ m', w' = w.drewN m') :
    Calls Tryz.prog 109 #[v, .func (.func 110) #[] #[]] w fun e w' => ∃ c : Bool, e = .returned (.bool c) ∧ (c = true ↔ ∃ i, i < n ∧ g i = true) ∧ ∃ m, w' = w.drewN m := by
  have HI := Lib.hid (indexFunc110 hr key)
  obtain ⟨A, cap, rfl, hcap, hmax, hlen, hc⟩ := hr
  clear key hlen hc
  go_enter Tryz.func109, Tryz.ntmps109
  go_wp2_with fail
  refine HI.out.mono ?_
  rintro e w1 ⟨r, rfl, hf, m, rfl⟩
  have HD := Lib.hid hf.dec
  clear hf
  go_wp2
  go_ret
  exact ⟨_, rfl, HD.out, m, rfl⟩
set_option maxRecDepth 1000000 in
set_option maxHeartbeats 6400000 in
theorem indexFunc83 {n : Nat} {B : Nat} {v : Value} {xs : List Value} {g : Nat → Bool} {w : World} (hr : Row B 1 w v n xs)
    (key : ∀ j x, xs[j]? = some x → ∀ m, Calls Tryz.prog 83 #[x] (w.drewN m) fun e w' => e = .returned (.bool (g j)) ∧ ∃ m', w' = w.drewN m') :
    Calls Tryz.prog 82 #[v, .func (.func 83) #[] #[]] w fun e w' => ∃ r : Int, e = .returned (.int .i64 r) ∧ FirstOf g n r ∧ ∃ m, w' = w.drewN m := by
  obtain ⟨A, cap, rfl, hcap, hmax, hlen, hc⟩ := hr
  unfold maxLen at hmax
  have KEY := Lib.hid key
  have HL := Lib.hid hlen
  have HC := Lib.hid hc
  clear key hlen hc
  go_enter Tryz.func82, Tryz.ntmps82
  go_wp2
  go_loopg [8] n (fun gk iv wx => ∃ j : Nat, iv = .int .i64 j ∧ j + gk = n ∧ (∀ i, i < j → g i = false) ∧ ∃ m, wx = w.drewN m)
  case atStart => exact ⟨0, rfl, by omega, fun i hi => absurd hi (by omega), 0, rfl⟩
  case round =>
    obtain ⟨j, rfl, hjg, hall, m, rfl⟩ := hrel
    have HALL := Lib.hid hall
    clear hall
    by_cases hj : j < n
    · have hgg : gk - 1 < gk := by omega
      obtain ⟨b, o, rfl, hb, hcell⟩ := HC.out (by omega)
      obtain ⟨x, hx⟩ : ∃ x, xs[j]? = some x := ⟨_, List.getElem?_eq_getElem (by have := HL.out; omega)⟩
      have c0 : (w.drewN m).cell? ⟨b, o + j, none⟩ = some x := hcell j x hx
      have K := Lib.hid (KEY.out j x hx m)
      clear hcell hx
      go_wp2_with fail
      refine K.out.mono ?_
      rintro e w1 ⟨rfl, m', rfl⟩
      clear c0
      cases hg : g j with
      | true =>
        have HG := Lib.hid hg
        clear hg
        go_wp2
        go_ret
        exact ⟨_, rfl, .inl ⟨j, rfl, hj, HG.out, HALL.out⟩, m', rfl⟩
      | false =>
        have HG := Lib.hid hg
        clear hg
        go_wp2
        go_roundg (gk - 1)
        case measure => exact hgg
        case rel => exact ⟨j + 1, by go_num, by omega, none_next HALL.out HG.out, m', rfl⟩
    · obtain rfl : n = j := by omega
      go_wp2
      go_ret
      exact ⟨_, rfl, .inr ⟨rfl, HALL.out⟩, m, rfl⟩
theorem eqlIn_nil_ptr (W : World) (a : Addr) (d : Nat) : (Op.equalIn (d + 1) 108 (.pointer none) (.pointer (some a))).run Tryz.prog W = .ok false W := by
  have hu : Tryz.prog.underlying 108 = some (.pointer (Tryz.prog.pointee 108)) := by kernel_rfl
  simp [Op.equalIn, run_underlying hu]
theorem eql_nil_ptr (W : World) (a : Addr) : (binOp .eql 108 (.pointer none) (.pointer (some a))).run Tryz.prog W = .ok (.bool false) W := by
  have h : (Op.equal 108 (.pointer none) (.pointer (some a))).run Tryz.prog W = .ok false W := eqlIn_nil_ptr W a 9999
  simp only [binOp]
  simp [h]
set_option maxRecDepth 1000000 in
set_option maxHeartbeats 6400000 in
theorem indexNil_any {n B : Nat} {v : Value} {os : List (Option Nat)} {cl : Nat → Nat} {w : World} (hr : Row B 1 w v n (os.map (ptrV cl))) :
    Calls Tryz.prog 122 #[v, .pointer none] w fun e w' => ∃ r : Int, e = .returned (.int .i64 r) ∧ FirstOf (fun i => decide (os[i]? = some none)) n r ∧ w' = w := by
  obtain ⟨A, cap, rfl, hcap, hmax, hlen, hc⟩ := hr
  unfold maxLen at hmax
  have HL := Lib.hid hlen
  have HC := Lib.hid hc
  clear hlen hc
  have qn := eql_nil_ptr
  go_enter Tryz.func122, Tryz.ntmps122
  go_wp2
  go_loopg [8] n (fun gk iv wx => ∃ j : Nat, iv = .int .i64 j ∧ j + gk = n ∧ (∀ i, i < j → decide (os[i]? = some none) = false) ∧ wx = w)
  case atStart => exact ⟨0, rfl, by omega, fun i hi => absurd hi (by omega), rfl⟩
  case round =>
    obtain ⟨j, rfl, hjg, hall, rfl⟩ := hrel
    have HALL := Lib.hid hall
    clear hall
    by_cases hj : j < n
    · have hgg : gk - 1 < gk := by omega
      obtain ⟨b, o, rfl, hb, hcell⟩ := HC.out (by omega)
      obtain ⟨x, hx⟩ : ∃ x, os[j]? = some x := ⟨_, List.getElem?_eq_getElem (by have := HL.out; simp at this; omega)⟩
      have c0 := hcell j (ptrV cl x) (by rw [List.getElem?_map, hx]; rfl)
      have HX := Lib.hid hx
      clear hcell hx
      cases x with
      | none =>
        change World.cell? _ _ = some (.pointer none) at c0
        go_wp2
        go_ret
        exact ⟨_, rfl, .inl ⟨j, rfl, hj, by show decide (os[j]? = some none) = true; rw [HX.out]; rfl, HALL.out⟩, rfl⟩
      | some y =>
        change World.cell? _ _ = some (.pointer (some ⟨cl y, 0, none⟩)) at c0
        go_wp2
        go_roundg (gk - 1)
        case measure => exact hgg
        case rel => exact ⟨j + 1, by go_num, by omega, none_next HALL.out (by show decide (os[j]? = some none) = false; rw [HX.out]; simp), rfl⟩
    · obtain rfl : n = j := by omega
      go_wp2
      go_ret
      exact ⟨_, rfl, .inr ⟨rfl, HALL.out⟩, rfl⟩
set_option maxRecDepth 1000000 in
set_option maxHeartbeats 6400000 in
theorem containsNil_any {n B : Nat} {v : Value} {os : List (Option Nat)} {cl : Nat → Nat} {w : World} (hr : Row B 1 w v n (os.map (ptrV cl))) :
    Calls Tryz.prog 107 #[v, .pointer none] w fun e w' => ∃ c : Bool, e = .returned (.bool c) ∧ (c = true ↔ none ∈ os) ∧ w' = w := by
  have HI := Lib.hid (indexNil_any hr)
  obtain ⟨A, cap, rfl, hcap, hmax, hlen, hc⟩ := hr
  have hn : n = os.length := by simpa using hlen.symm
  have HN := Lib.hid hn
  clear hlen hc hn
  go_enter Tryz.func107, Tryz.ntmps107
  go_wp2_with fail
  refine HI.out.mono ?_
  rintro e w1 ⟨r, rfl, hf, rfl⟩
  have HD := Lib.hid hf.dec
  clear hf
  go_wp2
  go_ret
  refine ⟨_, rfl, HD.out.trans ?_, rfl⟩
  rw [List.mem_iff_getElem?]
  constructor
  · rintro ⟨i, _, h⟩; exact ⟨i, by simpa using h⟩
  · rintro ⟨i, h⟩
    have h2 := (List.getElem?_eq_some_iff.1 h).1
    exact ⟨i, by have := HN.out; omega, by simpa using h⟩
end Go.Proofs.YtmaknddlgppinaaGreatDoor
/-! Hl -/
namespace Go.Proofs.YtmaknddlgppinaaGreatDoor
open Go.RowKit

def KC.link (k : KC) (u v : Value) : KC := { k with up := u, ifs := v }
/-- The links of a class, so far: j of its interfaces. -/
structure LI (cs : List PC) (cl : Nat → Nat) (cb : Nat) (k : KC) (c : PC) (w : World) (j : Nat) (v : Value) (wr : World) : Prop where
  upd : Upd [cb] w wr
  at_ : KAt cb (k.link (ptrV cl (ix cs c.super)) v) wr
  own : wr.ownsRow w.heap.size 108 1 v j ((c.ifaces.take j).map fun nm => ptrV cl (ix cs nm))
theorem KAt.setUp {c : Nat} {k : KC} {w : World} (h : KAt c k w) (u : Value) : KAt c { k with up := u } (w.setCell ⟨c, 8, none⟩ u) := by
  unfold KAt
  rw [heap_set_eq h]
  simp [KC.cells]
theorem KAt.setIfs {c : Nat} {k : KC} {w : World} (h : KAt c k w) (u : Value) : KAt c { k with ifs := u } (w.setCell ⟨c, 9, none⟩ u) := by
  unfold KAt
  rw [heap_set_eq h]
  simp [KC.cells]
theorem upd_cell {S : List Nat} {w w' : World} (h : Upd S w w') {b i : Nat} (hn : b ∉ S) (hb : b < w.heap.size) : w'.cell? ⟨b, i, none⟩ = w.cell? ⟨b, i, none⟩ := by
  have := h.block b hb hn
  unfold World.cell?
  rw [this]
theorem LI.row_ne {w : World} {base cb : Nat} {k : KC} {ns : List (List UInt8)} (h : OwnS w base k.ifn ns) (hk : KAt cb k w) {b o n c : Nat} (hi : k.ifn = .slice (some ⟨b, o, none⟩) n c) (hb : b < w.heap.size) : b ≠ cb := by
  obtain ⟨ss, _, _, ho⟩ := h
  have := hown_ne ho hk (by decide)
  rw [hi] at this
  simpa [Value.ownBlock] using this
theorem Upd.grown {S : List Nat} {w w2 w3 : World} (h : Upd S w w2) {v : Value} (hg : w2.grownBy w3 v.ownBlock) (hge : ∀ g, v.ownBlock = some g → w.heap.size ≤ g) : Upd S w w3 :=
  ⟨hg.os.trans h.os, hg.tape.trans h.tape, hg.output.trans h.output, Nat.le_trans h.size hg.size, fun i hi hn => (hg.block i (Nat.lt_of_lt_of_le hi h.size) (fun e => by have := hge i e.symm; omega)).trans (h.block i hi hn)⟩
theorem Upd.alloc {S : List Nat} {w w2 : World} (h : Upd S w w2) (o : Obj) : Upd S w (w2.alloc o) :=
  ⟨h.os, h.tape, h.output, by have := h.size; simp; omega, fun i hi hn => (Below.heap_alloc _ _ _ (Nat.lt_of_lt_of_le hi h.size)).trans (h.block i hi hn)⟩
theorem LI.next {cs : List PC} {cl : Nat → Nat} {cb : Nat} {k : KC} {c : PC} {w : World} {j : Nat} {v : Value} {wr : World} (h : LI cs cl cb k c w j v wr) {nm : List UInt8} (hx : c.ifaces[j]? = some nm) {q2 : Option Addr} (hq : ptrV cl (ix cs nm) = .pointer q2)
    {w3 : World} {v3 : Value} (hg : (wr.alloc (.cells #[.pointer q2] 108)).drew.grownBy w3 v.ownBlock) (own3 : w3.ownsRow w.heap.size 108 1 v3 (j + 1) (((c.ifaces.take j).map fun nm => ptrV cl (ix cs nm)) ++ [.pointer q2]))
    (k3 : KAt cb (k.link (ptrV cl (ix cs c.super)) v) w3) : LI cs cl cb k c w (j + 1) v3 (w3.setCell ⟨cb, 9, none⟩ v3) := by
  have u3 : Upd [cb] w w3 := Upd.grown (((h.upd.alloc (.cells #[.pointer q2] 108))).drewN 1) hg (hown_block_ge h.own)
  refine ⟨u3.trans (Upd.set (by simp)), k3.setIfs v3, ?_⟩
  have e : (c.ifaces.take (j + 1)).map (fun nm => ptrV cl (ix cs nm)) = ((c.ifaces.take j).map fun nm => ptrV cl (ix cs nm)) ++ [.pointer q2] := by
    rw [List.take_add_one, hx]
    simp [hq]
  rw [e]
  exact hown_but own3 ((HBut.refl cb cb w3).set cb (.inl rfl)) (hown_ne own3 k3 (by decide)) (hown_ne own3 k3 (by decide))
theorem kindE_14 {cs : List PC} {c : PC} (h : ix cs c.super = none ∨ none ∈ c.ifaces.map (ix cs)) : kindE cs c = 14 := by
  unfold kindE
  rw [if_pos]
  rcases h with h | h
  · exact .inl h
  · obtain ⟨nm, h1, h2⟩ := List.mem_map.1 h
    exact .inr ⟨nm, h1, h2⟩
theorem kindE_17 {cs : List PC} {c : PC} (h : ix cs c.super ≠ none) (h2 : none ∉ c.ifaces.map (ix cs)) (h3 : isI cs c.super = true ∨ c.super = strB ∨ c.super = weakB ∨ c.super = loadB ∨ (c.iface = true ∧ c.super ≠ objB) ∨ (∃ nm ∈ c.ifaces, isI cs nm = false)) : kindE cs c = 17 := by
  unfold kindE
  rw [if_neg, if_pos h3]
  rintro (e | ⟨nm, h1, e⟩)
  · exact h e
  · exact h2 (List.mem_map.2 ⟨nm, h1, e⟩)
theorem kindE_0 {cs : List PC} {c : PC} (h : ix cs c.super ≠ none) (h2 : none ∉ c.ifaces.map (ix cs)) (h3 : ¬ (isI cs c.super = true ∨ c.super = strB ∨ c.super = weakB ∨ c.super = loadB ∨ (c.iface = true ∧ c.super ≠ objB) ∨ (∃ nm ∈ c.ifaces, isI cs nm = false))) : kindE cs c = 0 := by
  unfold kindE
  rw [if_neg, if_neg h3]
  rintro (e | ⟨nm, h1, e⟩)
  · exact h e
  · exact h2 (List.mem_map.2 ⟨nm, h1, e⟩)
theorem LI.all {cs : List PC} {cl : Nat → Nat} {cb : Nat} {k : KC} {c : PC} {w : World} {j : Nat} {v : Value} {wr : World} (h : LI cs cl cb k c w j v wr) (hk : KAt cb k w) {i : Nat} {d : PC} (ha : ∃ ki, KAt (cl i) ki w ∧ ki.iface = d.iface) : ∃ ki, KAt (cl i) ki wr ∧ ki.iface = d.iface := by
  obtain ⟨ki, h1, h2⟩ := ha
  by_cases e : cl i = cb
  · refine ⟨_, e ▸ h.at_, ?_⟩
    rw [e] at h1
    have a := h1.cell 3
    rw [hk.cell 3] at a
    have : k.iface = ki.iface := by
      simp only [KC.cells, List.getElem?_cons_succ, List.getElem?_cons_zero, Option.some.injEq, Value.bool.injEq] at a
      exact a
    rw [← h2, ← this]
    rfl
  · exact ⟨ki, (h.upd.block _ (lt_of_block h1) (by simpa using e)).trans h1, h2⟩
set_option maxRecDepth 1000000 in
set_option maxHeartbeats 6400000 in
theorem linkUp_any {nb mb : Nat} {v0 : Value} {o : Int} {cs : List PC} {cl : Nat → Nat} {w : World} (t0 : w.heap[nb]? = some (.cells #[v0, .map (some mb), .int .i64 o] 112 (0, 0))) (hm : TMap mb cs cl w)
    {cb : Nat} {k : KC} (hk : KAt cb k w) (c : PC) (hn : Nmd k c) {base : Nat} (hrow : OwnS w base k.ifn c.ifaces) (h0 : k.ifs = .slice none 0 0) (hlen : c.ifaces.length ≤ 1000)
    (hall : ∀ j d, cs[j]? = some d → ∃ kj, KAt (cl j) kj w ∧ kj.iface = d.iface) :
    Calls Tryz.prog 80 #[.pointer (some ⟨nb, 0, none⟩), .pointer (some ⟨cb, 0, none⟩)] w fun e w' =>
      e = .returned (.int .i64 (kindE cs c : Int)) ∧ Upd [cb] w w' ∧ (kindE cs c = 0 → ∃ v, LI cs cl cb k c w c.ifaces.length v w') := by
  have hne : nb ≠ cb := fun e => by
    unfold KAt at hk
    rw [← e, t0] at hk
    have := congrArg (fun o => match o with | some (Obj.cells _ t _) => t | _ => 0) hk
    cases this
  have hmne : mb ≠ cb := fun e => by
    obtain ⟨es, n, h⟩ := hm.obj
    unfold KAt at hk
    rw [← e, h] at hk
    cases hk
  have c1 : w.cell? ⟨nb, 1, none⟩ = some (.map (some mb)) := by rw [kcells_of t0]; rfl
  have k1 : w.cell? ⟨cb, 1, none⟩ = some (.string k.super) := hk.cell 1
  have k8 : w.cell? ⟨cb, 8, none⟩ = some k.up := hk.cell 8
  have f8 : w.frozen? ⟨cb, 8, none⟩ = false := kfree_of hk 8
  have hl := (hm.same (w' := w.drew) rfl).look k.super (by have := hn.ssz; unfold maxLen; omega)
  rw [show k.super.data.toList = c.super from hn.sp] at hl
  have HM := Lib.hid hm
  have HK := Lib.hid hk
  have HT := Lib.hid t0
  have HN := Lib.hid hn
  have HROW := Lib.hid hrow
  have HALL := Lib.hid hall
  obtain ⟨ai, ci, hi⟩ := hrow.form
  have hnlt := lt_of_block t0
  have hclt := lt_of_block hk
  have start : ∀ W, W = w.drew.setCell ⟨cb, 8, none⟩ (ptrV cl (ix cs c.super)) → LI cs cl cb k c w 0 (.slice none 0 0) W := by
    rintro W rfl
    refine ⟨((Upd.refl [cb] w).drewN 1).trans (Upd.set (w := w.drew) (by simp)), ?_, World.ownsRow_nil _ _ _ _⟩
    have := KAt.setUp (w := w.drew) hk (ptrV cl (ix cs c.super))
    unfold KC.link
    rw [← h0]
    exact this
  have START := Lib.hid start
  obtain ⟨i0, hi0, hz0, hz1, hz2⟩ := info108
  obtain ⟨q, hq⟩ : ∃ q, ptrV cl (ix cs c.super) = .pointer q := by cases ix cs c.super <;> exact ⟨_, rfl⟩
  rw [hq] at hl
  have HQ := Lib.hid hq
  have c2 : w.cell? ⟨cb, 2, none⟩ = some (.slice ai c.ifaces.length ci) := by rw [hk.cell 2, ← hi]; rfl
  clear hm t0 hn hrow hall start hk hq
  go_enter Tryz.func80, Tryz.ntmps80
  go_wp2
  go_region
  go_wp2
  go_loopg [26] c.ifaces.length (fun gk iv wx => ∃ (j : Nat) (v : Value), iv = .int .i64 j ∧ j + gk = c.ifaces.length ∧ LI cs cl cb k c w j v wx)
  case atStart => exact ⟨0, _, rfl, by omega, START.out _ (by rw [HQ.out]; rfl)⟩
  case round =>
    obtain ⟨j, v, rfl, hjg, hL⟩ := hrel
    have HL := Lib.hid hL
    obtain ⟨a9, cp9, rfl⟩ := hown_form hL.own
    by_cases hj : j < c.ifaces.length
    · have hgg : gk - 1 < gk := by omega
      have hx := List.getElem?_eq_getElem hj
      generalize c.ifaces[j] = nm at hx
      obtain ⟨b, ob, s, rfl, hb, cn, hsn, hsz⟩ := SRow.at_ (by have := HROW.out.row; rw [hi] at this; exact this) hx
      have hbne : b ≠ cb := LI.row_ne HROW.out HK.out hi hb
      have cn' : wr.cell? ⟨b, ob + j, none⟩ = some (.string s) := by
        rw [← cn]
        exact upd_cell hL.upd (by simpa using hbne) hb
      have c9 : wr.cell? ⟨cb, 9, none⟩ = some (.slice a9 j cp9) := hL.at_.cell 9
      have f9 : wr.frozen? ⟨cb, 9, none⟩ = false := kfree_of hL.at_ 9
      have cm : wr.cell? ⟨nb, 1, none⟩ = some (.map (some mb)) := by
        rw [← c1]
        exact upd_cell hL.upd (by simpa using hne) hnlt
      have hlook := ((HM.out.stay hL.upd (by simpa using hmne)).same (w' := wr.drew) rfl).look s (by unfold maxLen; omega)
      rw [hsn] at hlook
      obtain ⟨q2, hq2⟩ : ∃ q, ptrV cl (ix cs nm) = .pointer q := by cases ix cs nm <;> exact ⟨_, rfl⟩
      rw [hq2] at hlook
      have HX := Lib.hid hx
      have HQ2 := Lib.hid hq2
      have HLK := Lib.hid (show ∀ n, (Instr.lookup 110 (.map (some mb)) (.string s) false).run Tryz.prog (wr.drewN n) = .ok (.pointer q2) (wr.drewN n) from fun n => by rw [← hq2, ← hsn]; exact ((HM.out.stay hL.upd (by simpa using hmne)).same (w' := wr.drewN n) rfl).look s (by unfold maxLen; omega))
      have HLK2 := Lib.hid hlook
      clear cn hx hq2 hlook
      have hbs := hL.upd.size
      have hcl9 : cb < wr.heap.size := lt_of_block hL.at_
      have hn9 := hown_ne hL.own hL.at_ (by decide)
      have HN9 := Lib.hid hn9
      clear hL hn9
      go_wp2
      have hl2 : ∀ n, (Instr.lookup 110 (.map (some mb)) (.string s) false).run Tryz.prog (wr.drewN n) = .ok (.pointer q2) (wr.drewN n) := HLK.out
      have hl3 := HLK2.out
      have c9a : ∀ (n : Nat) (o : Obj), ((wr.drewN n).alloc o).cell? ⟨cb, 9, none⟩ = some (.slice a9 j cp9) := fun n o => (World.cell?_alloc_lt _ _ _ hcl9).trans c9
      have c9b : ∀ (o : Obj), (wr.drew.alloc o).cell? ⟨cb, 9, none⟩ = some (.slice a9 j cp9) := fun o => c9a 1 o
      go_region_law (first
        | (refine hstep_append_own2 rfl (.tmp 34) (.tmp 41) 109 rfl w.heap.size 108 i0 (.pointer none) 1 8 und109 hi0 hz0 hz1 hz2 rfl (by decide) (.slice a9 j cp9) j _ rfl (World.ownsRow.alloc HL.out.own _) ⟨_, 0, none⟩ 1 1 [.pointer q2] rfl rfl (knew_at _ [.pointer q2] 108 _ (by simp)) (fun u hu => by simp at hu; subst hu; rfl) (by unfold maxLen; omega) (by omega) (by simp; omega) ?_
           intro v3 w3 own3 hg3 hm3
           have K3 := grown_block hg3 (hheap_alloc_lt HL.out.at_) HN9.out
           have c93 := kcells_of K3 9
           have f93 := kfree_of K3 9
           rw [show (k.link (ptrV cl (ix cs c.super)) (.slice a9 j cp9)).cells.toArray[9]? = some (.slice a9 j cp9) from rfl] at c93
           obtain ⟨a3, c3, rfl⟩ := hown_form own3
           have OW3 := Lib.hid own3
           have HG3 := Lib.hid hg3
           have K3' := Lib.hid K3
           clear own3 hg3 hm3 K3))
      all_goals
        go_wp2
        go_roundg (gk - 1)
        case measure => exact hgg
        case rel => exact ⟨j + 1, _, by go_num, by omega, HL.out.next HX.out HQ2.out HG3.out OW3.out K3'.out⟩
    · obtain rfl : c.ifaces.length = j := by omega
      have hU := Lib.hid hL.upd
      have hrw : Row wr.heap.size 1 wr (.slice a9 c.ifaces.length cp9) c.ifaces.length ((c.ifaces.map (ix cs)).map (ptrV cl)) := by
        have := Row.hof_own hL.own
        rw [List.take_length] at this
        rw [List.map_map]
        exact this
      have HRW := Lib.hid hrw
      have HIN := Lib.hid (containsNil_any hrw)
      have HA := Lib.hid (fun i d hd => hL.all HK.out (HALL.out i d hd))
      have c8 : wr.cell? ⟨cb, 8, none⟩ = some (.pointer q) := by rw [← HQ.out]; exact hL.at_.cell 8
      have c9 : wr.cell? ⟨cb, 9, none⟩ = some (.slice a9 c.ifaces.length cp9) := hL.at_.cell 9
      have c3 : wr.cell? ⟨cb, 3, none⟩ = some (.bool c.iface) := by rw [← HN.out.ifc]; exact hL.at_.cell 3
      have c11 : wr.cell? ⟨cb, 1, none⟩ = some (.string k.super) := hL.at_.cell 1
      have HSP := Lib.hid HN.out.sp
      clear hL hrw
      cases hix : ix cs c.super with
      | none =>
        have E := Lib.hid (kindE_14 (cs := cs) (c := c) (.inl hix))
        have : q = none := by have := HQ.out; rw [hix] at this; injection this with this; exact this.symm
        subst this
        clear hix
        go_wp2
        go_ret
        exact ⟨by rw [E.out]; rfl, hU.out, fun h => by rw [E.out] at h; cases h⟩
      | some si =>
        have : q = some ⟨cl si, 0, none⟩ := by have := HQ.out; rw [hix] at this; injection this with this; exact this.symm
        subst this
        have HIX := Lib.hid hix
        clear hix
        go_wp2_with fail
        refine HIN.out.mono ?_
        rintro e w1 ⟨cc, rfl, hcc, hw1⟩
        obtain rfl : wr = w1 := hw1.symm
        cases cc with
        | true =>
          have E := Lib.hid (kindE_14 (cs := cs) (c := c) (.inr (hcc.1 rfl)))
          clear hcc
          go_wp2
          go_ret
          exact ⟨by rw [E.out]; rfl, hU.out, fun h => by rw [E.out] at h; cases h⟩
        | false =>
          have HCC := Lib.hid (show none ∉ c.ifaces.map (ix cs) from fun h => by have := hcc.2 h; cases this)
          clear hcc
          obtain ⟨d, hd, _⟩ := ix_some HIX.out
          obtain ⟨ks, hks, hki⟩ := HA.out si d hd
          have hsi : wr.cell? ⟨cl si, 3, none⟩ = some (.bool (isI cs c.super)) := by
            rw [hks.cell 3, show isI cs c.super = d.iface by unfold isI; rw [HIX.out]; simp only [hd], ← hki]; rfl
          clear hd hks hki
          have hnn : ix cs c.super ≠ none := by rw [HIX.out]; simp
          have closeIt : ∀ (Z : World), Z = wr → (isI cs c.super = true ∨ c.super = strB ∨ c.super = weakB ∨ c.super = loadB ∨ (c.iface = true ∧ c.super ≠ objB) ∨ (∃ nm ∈ c.ifaces, isI cs nm = false)) → (Ending.returned (.int .i64 17) = .returned (.int .i64 (kindE cs c : Int)) ∧ Upd [cb] w Z ∧ (kindE cs c = 0 → ∃ v, LI cs cl cb k c w c.ifaces.length v Z)) := fun Z hZ h => by
            rw [kindE_17 hnn HCC.out h, hZ]
            exact ⟨rfl, hU.out, fun h => by cases h⟩
          have CL := Lib.hid closeIt
          have HNN := Lib.hid hnn
          have SE := Lib.hid (fun W => isSealed_any k.super W)
          clear closeIt hnn
          cases h1 : isI cs c.super with
          | true =>
            rw [h1] at hsi
            have H1 := Lib.hid h1
            clear h1
            go_wp2
            go_ret
            exact CL.out _ rfl (.inl H1.out)
          | false =>
            rw [h1] at hsi
            have H1 := Lib.hid h1
            clear h1
            by_cases h2 : k.super.toList = strB ∨ k.super.toList = weakB ∨ k.super.toList = loadB
            · have SE2 := Lib.hid (show ∀ W, Calls Tryz.prog 108 #[.string k.super] W fun e w' => e = .returned (.bool true) ∧ w' = W from fun W => by have := SE.out W; rwa [decide_eq_true h2] at this)
              have H2 := Lib.hid h2
              clear h2
              go_wp2_with fail
              refine (SE2.out _).mono ?_
              rintro e wi ⟨rfl, rfl⟩
              go_wp2
              go_ret
              exact CL.out _ rfl (.inr (by have := H2.out; rw [Lib.toList_data, HSP.out] at this; rcases this with h | h | h; exact .inl h; exact .inr (.inl h); exact .inr (.inr (.inl h))))
            · have SE2 := Lib.hid (show ∀ W, Calls Tryz.prog 108 #[.string k.super] W fun e w' => e = .returned (.bool false) ∧ w' = W from fun W => by have := SE.out W; rwa [decide_eq_false h2] at this)
              have H2 := Lib.hid h2
              clear h2
              -- the last: are all of them interfaces?
              have last : ∀ W, W = wr → Calls Tryz.prog 109 #[.slice a9 c.ifaces.length cp9, .func (.func 110) #[] #[]] W fun e w' => (e = .returned (.bool true) ∧ (∃ nm ∈ c.ifaces, isI cs nm = false) ∧ ∃ m, w' = wr.drewN m) ∨ (e = .returned (.bool false) ∧ (∀ nm ∈ c.ifaces, isI cs nm = true) ∧ ∃ m, w' = wr.drewN m) := by
                rintro W rfl
                have hat : ∀ (j : Nat) (x : Value), ((c.ifaces.map (ix cs)).map (ptrV cl))[j]? = some x → ∃ nm i, c.ifaces[j]? = some nm ∧ ix cs nm = some i ∧ x = .pointer (some ⟨cl i, 0, none⟩) := by
                  intro j x hx
                  rw [List.getElem?_map, List.getElem?_map] at hx
                  cases hn : c.ifaces[j]? with
                  | none => rw [hn] at hx; cases hx
                  | some nm =>
                    rw [hn] at hx
                    cases hi : ix cs nm with
                    | none => exact absurd (List.mem_map.2 ⟨nm, List.mem_of_getElem? hn, hi⟩) HCC.out
                    | some i =>
                      simp only [Option.map_some, Option.some.injEq, hi] at hx
                      exact ⟨nm, i, rfl, hi, hx.symm⟩
                refine (containsFunc110 (g := fun j => match c.ifaces[j]? with | some nm => !isI cs nm | none => false) HRW.out (fun j x hx m => ?_)).mono ?_
                · obtain ⟨nm, i, e1, e2, rfl⟩ := hat j x hx
                  obtain ⟨di, hdi, _⟩ := ix_some e2
                  obtain ⟨ki, hki, hi2⟩ := HA.out i di hdi
                  refine (isClass_any (hki.drewN m)).mono ?_
                  rintro e w' ⟨rfl, rfl⟩
                  refine ⟨?_, m, rfl⟩
                  simp only [e1]
                  rw [hi2, show isI cs nm = di.iface by unfold isI; rw [e2]; simp only [hdi]]
                · rintro e w' ⟨cc, rfl, hcc, hm'⟩
                  cases cc with
                  | true =>
                    obtain ⟨i, hi, hg⟩ := hcc.1 rfl
                    left
                    rw [List.getElem?_eq_getElem hi] at hg
                    exact ⟨rfl, ⟨c.ifaces[i], List.getElem_mem hi, by simpa using hg⟩, hm'⟩
                  | false =>
                    right
                    refine ⟨rfl, fun nm hnm => ?_, hm'⟩
                    obtain ⟨i, hi, rfl⟩ := List.getElem_of_mem hnm
                    cases hb : isI cs c.ifaces[i] with
                    | true => rfl
                    | false =>
                      have := hcc.2 ⟨i, hi, by rw [List.getElem?_eq_getElem hi]; simp [hb]⟩
                      cases this
              have LAST := Lib.hid last
              clear last
              have fin : ∀ m, ¬ (c.iface = true ∧ c.super ≠ objB) → (∀ nm ∈ c.ifaces, isI cs nm = true) → (Ending.returned (.int .i64 0) = .returned (.int .i64 (kindE cs c : Int)) ∧ Upd [cb] w (wr.drewN m) ∧ (kindE cs c = 0 → ∃ v, LI cs cl cb k c w c.ifaces.length v (wr.drewN m))) := fun m h3 h4 => by
                have e0 : kindE cs c = 0 := kindE_0 HNN.out HCC.out (by
                  have h2 := H2.out
                  rw [Lib.toList_data, HSP.out] at h2
                  rintro (h | h | h | h | h | ⟨nm, hnm, h⟩)
                  · rw [H1.out] at h; cases h
                  · exact h2 (.inl h)
                  · exact h2 (.inr (.inl h))
                  · exact h2 (.inr (.inr h))
                  · exact h3 h
                  · rw [h4 nm hnm] at h; cases h)
                rw [e0]
                exact ⟨rfl, hU.out.drewN m, fun _ => ⟨_, HL.out.upd.drewN m, HL.out.at_, HL.out.own⟩⟩
              have FIN := Lib.hid fin
              have CL2 := Lib.hid (show ∀ m, (c.iface = true ∧ c.super ≠ objB) ∨ (∃ nm ∈ c.ifaces, isI cs nm = false) → (Ending.returned (.int .i64 17) = .returned (.int .i64 (kindE cs c : Int)) ∧ Upd [cb] w (wr.drewN m) ∧ (kindE cs c = 0 → ∃ v, LI cs cl cb k c w c.ifaces.length v (wr.drewN m))) from fun m h => by
                rw [kindE_17 HNN.out HCC.out (.inr (.inr (.inr (.inr h))))]
                exact ⟨rfl, hU.out.drewN m, fun h => by cases h⟩)
              clear fin
              cases h3 : c.iface with
              | false =>
                rw [h3] at c3
                have H3 := Lib.hid h3
                clear h3
                go_wp2_with fail
                refine (SE2.out _).mono ?_
                rintro e wi ⟨rfl, hwi⟩
                obtain rfl : wr = wi := hwi.symm
                go_wp2_with fail
                refine (LAST.out _ rfl).mono ?_
                rintro e w2 (⟨rfl, h5, m, rfl⟩ | ⟨rfl, h5, m, rfl⟩)
                · have H5 := Lib.hid h5
                  clear h5
                  go_wp2
                  go_ret
                  exact CL2.out m (.inr H5.out)
                · have H5 := Lib.hid h5
                  clear h5
                  go_wp2
                  go_ret
                  exact FIN.out m (fun h => by rw [H3.out] at h; cases h.1) H5.out
              | true =>
                rw [h3] at c3
                have H3 := Lib.hid h3
                clear h3
                by_cases h4 : c.super = objB
                · have e4 : (k.super.toList == objB) = true := by rw [Lib.toList_data, HSP.out, h4]; simp
                  have H4 := Lib.hid h4
                  unfold objB at e4
                  clear h4
                  go_wp2_with fail
                  refine (SE2.out _).mono ?_
                  rintro e wi ⟨rfl, hwi⟩
                  obtain rfl : wr = wi := hwi.symm
                  go_wp2_with fail
                  refine (LAST.out _ rfl).mono ?_
                  rintro e w2 (⟨rfl, h5, m, rfl⟩ | ⟨rfl, h5, m, rfl⟩)
                  · have H5 := Lib.hid h5
                    clear h5
                    go_wp2
                    go_ret
                    exact CL2.out m (.inr H5.out)
                  · have H5 := Lib.hid h5
                    clear h5
                    go_wp2
                    go_ret
                    exact FIN.out m (fun h => h.2 H4.out) H5.out
                · have e4 : (k.super.toList == objB) = false := by rw [Lib.toList_data, HSP.out]; simpa using h4
                  have H4 := Lib.hid h4
                  unfold objB at e4
                  clear h4
                  go_wp2_with fail
                  refine (SE2.out _).mono ?_
                  rintro e wi ⟨rfl, hwi⟩
                  obtain rfl : wr = wi := hwi.symm
                  go_wp2
                  go_ret
                  exact CL2.out 0 (.inl ⟨H3.out, H4.out⟩)
end Go.Proofs.YtmaknddlgppinaaGreatDoor
/-! Hx -/
namespace Go.Proofs.YtmaknddlgppinaaGreatDoor
open Classical

theorem Ch.at_sle {cs : List PC} {i : Nat} {l : List Nat} (h : Ch cs i l) : ∀ {k p x y : Nat}, l[k]? = some x → l[p]? = some y → k ≤ p → Sle cs x y := by
  induction h with
  | last _ =>
    intro k p x y hx hy hkp
    have h1 : k = 0 := by have := (List.getElem?_eq_some_iff.1 hx).1; simpa using this
    have h2 : p = 0 := by have := (List.getElem?_eq_some_iff.1 hy).1; simpa using this
    subst h1; subst h2
    rw [hx] at hy; cases hy; exact .refl
  | @next i j l hs hl ih =>
    intro k p x y hx hy hkp
    cases k with
    | zero =>
      rw [List.getElem?_cons_zero] at hx
      cases hx
      exact (Ch.sle (.next hs hl)).1 (List.mem_of_getElem? hy)
    | succ k =>
      cases p with
      | zero => omega
      | succ p =>
        rw [List.getElem?_cons_succ] at hx hy
        exact ih hx hy (by omega)
/-- The first of a chain that is in the other one. -/
theorem mt_chain {cs : List PC} (G : Good cs) {i j : Nat} {l m : List Nat} (hl : Ch cs i l) (hm : Ch cs j m) {k x : Nat} (hk : l[k]? = some x) (hx : x ∈ m) (hf : ∀ p, p < k → ∀ y, l[p]? = some y → y ∉ m) : mt cs i j = x := by
  refine mt_eq G ⟨hl.sle.1 (List.mem_of_getElem? hk), hm.sle.1 hx, fun z h1 h2 => ?_⟩
  have hz := hl.sle.2 h1
  obtain ⟨p, hp, rfl⟩ := List.getElem_of_mem hz
  have hp' := List.getElem?_eq_getElem hp
  by_cases h : p < k
  · exact absurd (hm.sle.2 h2) (hf p h _ hp')
  · exact hl.at_sle hk hp' (by omega)
/-- A chain's next place. -/
theorem Ch.step_at {cs : List PC} {i : Nat} {l : List Nat} (h : Ch cs i l) : ∀ {k x : Nat}, l[k]? = some x → l[k + 1]? = sup cs x ∨ (sup cs x = none ∧ k + 1 = l.length) := by
  induction h with
  | last h =>
    intro k x hx
    have h1 : k = 0 := by have := (List.getElem?_eq_some_iff.1 hx).1; simpa using this
    subst h1
    cases hx
    exact .inr ⟨h, rfl⟩
  | @next i j l hs hl ih =>
    intro k x hx
    cases k with
    | zero =>
      rw [List.getElem?_cons_zero] at hx
      cases hx
      left
      rw [List.getElem?_cons_succ, hl.head, hs]
    | succ k =>
      rw [List.getElem?_cons_succ] at hx
      rcases ih hx with h | ⟨h1, h2⟩
      · left; rw [List.getElem?_cons_succ]; exact h
      · right; exact ⟨h1, by simp; omega⟩
theorem Ch.step_some {cs : List PC} {i : Nat} {l : List Nat} (h : Ch cs i l) {k x y : Nat} (hx : l[k]? = some x) (hs : sup cs x = some y) : l[k + 1]? = some y := by
  rcases h.step_at hx with h | ⟨h, _⟩
  · rw [h, hs]
  · rw [h] at hs; cases hs
theorem Ch.step_none {cs : List PC} {i : Nat} {l : List Nat} (h : Ch cs i l) {k x : Nat} (hx : l[k]? = some x) (hs : sup cs x = none) : k + 1 = l.length := by
  rcases h.step_at hx with h | ⟨_, h⟩
  · rw [hs] at h
    have h1 := (List.getElem?_eq_some_iff.1 hx).1
    have h2 := List.getElem?_eq_none_iff.1 h
    omega
  · exact h
theorem Ch.lt {cs : List PC} {i : Nat} {l : List Nat} (h : Ch cs i l) (hi : i < cs.length) {x : Nat} (hx : x ∈ l) : x < cs.length := by
  rcases h.mem hx with rfl | h
  · exact hi
  · exact h.lt.2
/-- The names of a chain. -/
def nms (cs : List PC) (l : List Nat) : List (List UInt8) := l.map fun i => match cs[i]? with
  | none => []
  | some c => c.name
/-- Whether j is directly above i. -/
def upB (cs : List PC) (i j : Nat) : Bool := match cs[i]? with
  | none => false
  | some c => decide (ix cs c.super = some j) || c.ifaces.any fun nm => decide (ix cs nm = some j)
theorem upB_iff {cs : List PC} {i j : Nat} : upB cs i j = true ↔ Up cs i j := by
  unfold upB Up
  cases hc : cs[i]? with
  | none => simp
  | some c => simp
/-- A number that falls at each step up shows that no class is above itself. -/
def falls (cs : List PC) (rk : List Nat) : Bool := (List.range cs.length).all fun i => (List.range cs.length).all fun j => !upB cs i j || decide ((rk[j]?).getD 0 < (rk[i]?).getD 0)
theorem falls_up {cs : List PC} {rk : List Nat} (h : falls cs rk = true) {i j : Nat} (hu : Up cs i j) : (rk[j]?).getD 0 < (rk[i]?).getD 0 := by
  unfold falls at h
  rw [List.all_eq_true] at h
  have h1 := h i (List.mem_range.2 hu.lt.1)
  rw [List.all_eq_true] at h1
  have h2 := h1 j (List.mem_range.2 hu.lt.2)
  rw [upB_iff.2 hu] at h2
  simpa using h2
theorem falls_abv {cs : List PC} {rk : List Nat} (h : falls cs rk = true) {i j : Nat} (hu : Abv cs i j) : (rk[j]?).getD 0 < (rk[i]?).getD 0 := by
  induction hu with
  | one hu => exact falls_up h hu
  | more hu _ ih => have := falls_up h hu; omega
theorem falls_acyc {cs : List PC} {rk : List Nat} (h : falls cs rk = true) (i : Nat) : ¬ Abv cs i i := fun hu => Nat.lt_irrefl _ (falls_abv h hu)
theorem firstR_all {cs : List PC} (k : Nat) (h : ∀ i, ¬ Abv cs i i) : ∀ n i, firstR cs k n i = none
  | 0, _ => rfl
  | n + 1, i => by unfold firstR; rw [if_neg (h _)]; exact firstR_all k h n (i + 1)
/-- Files that make a table. -/
theorem openP_of {cs ds : List PC} {fs : List FC} {rk : List Nat} (h0 : fs.length ≤ 64) (h1 : addP cs fs 0 = .inl ds) (h2 : ∀ c ∈ ds.drop cs.length, kindE ds c = 0) (h3 : falls ds rk = true) : openP cs fs = .inl ds := by
  have hE : ∀ (l : List PC) (i : Nat), (∀ c ∈ l, kindE ds c = 0) → firstE (kindE ds) l i = none := by
    intro l
    induction l with
    | nil => intro i _; rfl
    | cons c l ih => intro i h; unfold firstE; rw [if_neg (by rw [h c (by simp)]; simp)]; exact ih _ fun d hd => h d (by simp [hd])
  unfold openP
  rw [if_neg (by omega), h1]
  simp only
  rw [hE _ _ h2]
  simp only
  rw [firstR_all _ (falls_acyc h3)]
/-- kindE, so that it can be reckoned. -/
def kindB (cs : List PC) (c : PC) : Nat :=
  if (ix cs c.super).isNone || c.ifaces.any (fun nm => (ix cs nm).isNone) then 14
  else if isI cs c.super || decide (c.super = strB) || decide (c.super = weakB) || decide (c.super = loadB) || (c.iface && !decide (c.super = objB)) || c.ifaces.any (fun nm => !isI cs nm) then 17
  else 0
theorem kindB_eq (cs : List PC) (c : PC) : kindB cs c = kindE cs c := by
  unfold kindB kindE
  simp only [Bool.or_eq_true, List.any_eq_true, Option.isNone_iff_eq_none, Bool.and_eq_true, Bool.not_eq_true', decide_eq_true_eq, decide_eq_false_iff_not, or_assoc, ne_eq]
theorem ch_of {cs : List PC} : ∀ {l : List Nat} {i : Nat}, l[0]? = some i → (∀ k x, l[k]? = some x → sup cs x = l[k + 1]?) → Ch cs i l
  | [], i, h, _ => by cases h
  | [x], i, h, h2 => by
    cases h
    exact .last (h2 0 _ rfl)
  | x :: y :: l, i, h, h2 => by
    cases h
    refine .next (h2 0 _ rfl) (ch_of (l := y :: l) rfl fun k z hz => ?_)
    have := h2 (k + 1) z (by simpa using hz)
    simpa using this
end Go.Proofs.YtmaknddlgppinaaGreatDoor
