/-
  CUT and joined from the texts of this seat: Rm R1
-/
import Derived.Test.YtmaknddlgppinaaGreatDoorZ34
import Derived.Test.YtmaknddlgppinaaGreatDoorZ35
import Derived.Test.YtmaknddlgppinaaGreatDoorZ23
import Derived.Test.YtmaknddlgppinaaGreatDoorZ12
import Derived.Test.YtmaknddlgppinaaGreatDoorZ20
import Derived.Deep.RegionHeld3
import Derived.Deep.LoopGhost
set_option linter.unusedVariables false
set_option linter.unusedSimpArgs false
namespace Go.Proofs.YtmaknddlgppinaaGreatDoor
open Go.RowKit
def uN : List ByteArray := [⟨#[83, 116, 114, 105, 110, 103]⟩, ⟨#[87, 101, 97, 107]⟩, ⟨#[76, 111, 97, 100, 101, 114]⟩, ⟨#[84, 104, 114, 111, 119, 97, 98, 108, 101]⟩]
def thN : List ByteArray := [⟨#[78, 117, 108, 108]⟩, ⟨#[65, 114, 105, 116, 104]⟩, ⟨#[66, 111, 117, 110, 100, 115]⟩, ⟨#[83, 105, 122, 101]⟩, ⟨#[67, 97, 115, 116]⟩, ⟨#[83, 116, 111, 114, 101]⟩, ⟨#[77, 111, 110, 105, 116, 111, 114]⟩, ⟨#[78, 111, 67, 108, 97, 115, 115]⟩, ⟨#[68, 101, 101, 112]⟩]
def bcB (sp : ByteArray) (s : ByteArray) : PC := bc s.data.toList sp.data.toList
def obP : PC := ⟨objB, [], [], false, false, -1⟩
theorem named_small : (∀ s ∈ uN, s.size ≤ 1000000) ∧ ∀ s ∈ thN, s.size ≤ 1000000 := by decide
/-- A class of one name below another one, without interfaces, in the row. -/
theorem bcB_at (base : Nat) (w : World) (own : Bool) (ho : own = false) (sp s : ByteArray) (h1 : s.size ≤ 1000000) (h2 : sp.size ≤ 1000000) : ClsO base w (.agg #[.string s, .string sp, .slice none 0 0, .bool false, .bool false, .bool false, .int .i64 (-1)]) own (bcB sp s) := by
 subst ho
 exact ⟨s, sp, none, 0, rfl, rfl, h1, rfl, h2, .inr (OwnS.nil _ _), by show (0 : Nat) ≤ 1000; omega⟩
/-- A class appended. -/
theorem OwnCs.push {w W w' : World} {base ow : Nat} {v v' : Value} {cs : List PC} (hB : base ≤ w.heap.size) (hW : Below w.heap.size w W) {c : PC} {x : Value} (hx : ClsO base w x (decide (ow ≤ cs.length)) c) (vs : List Value) (h1 : vs.length = cs.length) (h2 : ∀ (i : Nat) (c : PC) (x : Value), cs[i]? = some c → vs[i]? = some x → ClsO base w x (decide (ow ≤ i)) c) (h3 : w.ownsRow base 119 7 v cs.length (vs.flatMap cagg))
  (hg : W.grownBy w' v.ownBlock) (own' : w'.ownsRow base 119 7 v' (cs.length + 1) (vs.flatMap cagg ++ cagg x)) : OwnCs w' base v' ow (cs ++ [c]) ∧ HKept 119 base w w' := by
 have k0 : HKept 1000 base w W := HKept.of_below hW hB
 have k1 : HKept 119 base w W := HKept.of_below hW hB
 have h3' : W.ownsRow base 119 7 v cs.length (vs.flatMap cagg) := hown_kept h3 (by decide) k0
 have hB' := Nat.le_trans hB hW.size
 exact ⟨OwnCs.snoc h1 (fun i c x a b => (h2 i c x a b).kept k0 (by decide)) h3' (hx.kept k0 (by decide)) hB' hg own', k1.trans (hown_grown h3' hB' hg)⟩
set_option maxRecDepth 1000000 in
set_option maxHeartbeats 12800000 in
theorem RBuilt_any (w : World) (ow : Nat) (how : 14 ≤ ow) :
  Calls Tryz.prog 64 #[] w fun e w' => ∃ v, e = .returned v ∧ OwnCs w' w.heap.size v ow builtP ∧ Below w.heap.size w w' := by
 obtain ⟨i0, hi0, hz0, hz1, hz2⟩ := info119
 go_enter Tryz.func64, Tryz.ntmps64
 go_upto_region 1 with fail
 go_cut [1] (fun v wx => OwnCs wx w.heap.size v ow [obP] ∧ Below w.heap.size w wx)
 case first =>
  go_wp2_with (refine hwpList_build119 rfl (.tmp 6) rfl (.string ⟨#[79, 98, 106, 101, 99, 116]⟩) (.string ⟨#[]⟩) (.slice none 0 0) (.bool false) (.bool false) (.bool false) (.int .i64 (-1)) rfl ?_)
  go_meet
  case rel =>
   refine ⟨⟨[.agg #[.string ⟨#[79, 98, 106, 101, 99, 116]⟩, .string ⟨#[]⟩, .slice none 0 0, .bool false, .bool false, .bool false, .int .i64 (-1)]], rfl, fun i c x hc hx => ?_, hown_new (hheap_new w _) (Nat.le_refl _) rfl (by unfold maxLen; decide)⟩, (Below.refl _ _).alloc (Nat.le_refl _) _⟩
   have hi := (List.getElem?_eq_some_iff.1 hc).1
   have h0 : i = 0 := by simpa using hi
   subst h0
   simp only [List.getElem?_cons_zero, Option.some.injEq] at hc hx
   subst hc; subst hx
   rw [decide_eq_false (by omega)]
   exact ⟨⟨#[79, 98, 106, 101, 99, 116]⟩, ⟨#[]⟩, none, 0, rfl, rfl, by decide, rfl, by decide, .inr (OwnS.nil _ _), by show (0 : Nat) ≤ 1000; omega⟩
 obtain ⟨hown, hb⟩ := hcut
 obtain ⟨V1, hV1⟩ : ∃ x, x = wc := ⟨_, rfl⟩
 subst hV1
 obtain ⟨a1, c1, rfl⟩ := hown.form
 have O1 := Lib.hid hown
 have B1 := Lib.hid hb
 clear hown hb
 go_upto_region 2 with fail
 go_cut [2] (fun v wx => ∃ bn, v = .slice (some ⟨bn, 0, none⟩) 4 4 ∧ wx.heap[bn]? = some (.cells (uN.map Value.string).toArray 9 (0, 0)) ∧ Below V1.heap.size V1 wx)
 case first =>
  go_wp2
  go_meet
  case rel => exact ⟨_, rfl, hheap_new _ _, (Below.refl _ _).alloc (Nat.le_refl _) _⟩
 obtain ⟨bn1, rfl, hbn, hb⟩ := hcut
 obtain ⟨V1b, hVb⟩ : ∃ x, x = wc := ⟨_, rfl⟩
 subst hVb
 have BN1 := Lib.hid hbn
 have OO1 := Lib.hid (O1.out.below B1.out.size hb)
 have BB1 := Lib.hid (B1.out.trans (hb.mono B1.out.size))
 clear hbn hb
 go_wp2
 go_loopg [1, 3] 4 (fun g v1 v3 wx => ∃ j : Nat, v3 = .int .i64 j ∧ j + g = 4 ∧ OwnCs wx w.heap.size v1 ow ([obP] ++ (uN.take j).map (bcB ⟨#[79, 98, 106, 101, 99, 116]⟩)) ∧ wx.heap[bn1]? = some (.cells (uN.map Value.string).toArray 9 (0, 0)) ∧ Below w.heap.size w wx)
 case atStart => exact ⟨0, rfl, by omega, by simpa using OO1.out, BN1.out, BB1.out⟩
 case round =>
  obtain ⟨j, rfl, hjg, hown, hbn, hb⟩ := hrel
  have HB := Lib.hid hb
  have HBN := Lib.hid hbn
  have hbs := hb.size
  by_cases hj : j < 4
  ·obtain ⟨s, hs⟩ : ∃ s, uN[j]? = some s := ⟨_, List.getElem?_eq_getElem (by simpa [uN] using hj)⟩
   have hsz : s.size ≤ 1000000 := named_small.1 s (List.mem_of_getElem? hs)
   have cj : wr.cell? ⟨bn1, j, none⟩ = some (.string s) := by rw [kcells_of hbn]; simp [hs]
   have hbl := lt_of_block hbn
   have hlen : ([obP] ++ (uN.take j).map (bcB ⟨#[79, 98, 106, 101, 99, 116]⟩)).length = 1 + j := by
    rw [List.length_append, List.length_map, List.length_take]
    have : uN.length = 4 := rfl
    have : ([obP] : List PC).length = 1 := rfl
    omega
   obtain ⟨vs, hv1, hv2, hv3⟩ := hown
   have PUSH := Lib.hid (fun (W w' : World) (v' : Value) (hW : Below wr.heap.size wr W) => OwnCs.push (v' := v') (w' := w') hbs hW (c := bcB ⟨#[79, 98, 106, 101, 99, 116]⟩ s) (x := .agg #[.string s, .string ⟨#[79, 98, 106, 101, 99, 116]⟩, .slice none 0 0, .bool false, .bool false, .bool false, .int .i64 (-1)]) (by rw [hlen]; exact bcB_at _ _ _ (decide_eq_false (by omega)) _ _ hsz (by decide)) vs hv1 hv2 hv3)
   rw [hlen] at hv3 PUSH
   obtain ⟨a0, c0, rfl⟩ := hown_form hv3
   have HR := Lib.hid hv3
   have HS := Lib.hid hs
   clear hbn hb hs hlen hv1 hv2 hv3
   go_wp2_with (first | (at_builtin; refine hwpList_append_own2 rfl (.tmp 15) (.tmp 21) 102 rfl w.heap.size 119 i0 (.agg #[.string ⟨#[]⟩, .string ⟨#[]⟩, .slice none 0 0, .bool false, .bool false, .bool false, .int .i64 0]) 7 72 und102 hi0 hz0 hz1 hz2 rfl (by decide) (.slice a0 (1 + j) c0) (1 + j) _ rfl (World.ownsRow.alloc HR.out _) ⟨_, 0, none⟩ 1 1 [.string s, .string ⟨#[79, 98, 106, 101, 99, 116]⟩, .slice none 0 0, .bool false, .bool false, .bool false, .int .i64 (-1)] rfl rfl (knew_at _ [.string s, .string ⟨#[79, 98, 106, 101, 99, 116]⟩, .slice none 0 0, .bool false, .bool false, .bool false, .int .i64 (-1)] 119 _ (by simp)) (fun u hu => by simp only [List.mem_cons, List.not_mem_nil, or_false] at hu; rcases hu with rfl | rfl | rfl | rfl | rfl | rfl | rfl <;> rfl) (by unfold maxLen; omega) (by omega) (by simp; omega) ?_; intro v3 w3 own3 hg3 hm3; have PU := Lib.hid (PUSH.out _ _ _ ((Below.refl _ _).alloc (Nat.le_refl _) _) hg3 own3); obtain ⟨a3, c3, rfl⟩ := hown_form own3; clear own3 hg3 hm3) | (refine hwpList_build119 rfl (.tmp 20) rfl (.string s) (.string ⟨#[79, 98, 106, 101, 99, 116]⟩) (.slice none 0 0) (.bool false) (.bool false) (.bool false) (.int .i64 (-1)) rfl ?_))
   go_roundg (gk - 1)
   case measure => omega
   case rel =>
    refine ⟨j + 1, by go_num, by omega, ?_, PU.out.2.other _ _ _ _ (by decide) HBN.out, HB.out.trans PU.out.2.below⟩
    rw [List.take_add_one, HS.out, List.map_append, ← List.append_assoc]
    exact PU.out.1
  ·have hjn : j = 4 := by omega
   subst hjn
   have e : [obP] ++ (uN.take 4).map (bcB ⟨#[79, 98, 106, 101, 99, 116]⟩) = [obP] ++ uN.map (bcB ⟨#[79, 98, 106, 101, 99, 116]⟩) := rfl
   rw [e] at hown
   obtain ⟨a2, c2, rfl⟩ := hown.form
   have O2 := Lib.hid hown
   have B2 := Lib.hid hb
   obtain ⟨V2x, hV2⟩ : ∃ x, x = wr := ⟨_, rfl⟩
   subst hV2
   clear hown hbn hb e
   go_upto_region 7 with fail
   go_cut [4] (fun v wx => ∃ bn, v = .slice (some ⟨bn, 0, none⟩) 9 9 ∧ wx.heap[bn]? = some (.cells (thN.map Value.string).toArray 9 (0, 0)) ∧ Below V2x.heap.size V2x wx)
   case first =>
    go_wp2
    go_meet
    case rel => exact ⟨_, rfl, hheap_new _ _, (Below.refl _ _).alloc (Nat.le_refl _) _⟩
   obtain ⟨bn2, rfl, hbn, hb⟩ := hcut
   obtain ⟨V2b, hVb⟩ : ∃ x, x = wc := ⟨_, rfl⟩
   subst hVb
   have BN2 := Lib.hid hbn
   have OO2 := Lib.hid (O2.out.below B2.out.size hb)
   have BB2 := Lib.hid (B2.out.trans (hb.mono B2.out.size))
   clear hbn hb
   go_wp2
   go_loopg [1, 5] 9 (fun g v1 v3 wx => ∃ j : Nat, v3 = .int .i64 j ∧ j + g = 9 ∧ OwnCs wx w.heap.size v1 ow (([obP] ++ uN.map (bcB ⟨#[79, 98, 106, 101, 99, 116]⟩)) ++ (thN.take j).map (bcB ⟨#[84, 104, 114, 111, 119, 97, 98, 108, 101]⟩)) ∧ wx.heap[bn2]? = some (.cells (thN.map Value.string).toArray 9 (0, 0)) ∧ Below w.heap.size w wx)
   case atStart => exact ⟨0, rfl, by omega, by simpa using OO2.out, BN2.out, BB2.out⟩
   case round =>
    obtain ⟨j, rfl, hjg, hown, hbn, hb⟩ := hrel
    have HB := Lib.hid hb
    have HBN := Lib.hid hbn
    have hbs := hb.size
    by_cases hj : j < 9
    ·obtain ⟨s, hs⟩ : ∃ s, thN[j]? = some s := ⟨_, List.getElem?_eq_getElem (by simpa [thN] using hj)⟩
     have hsz : s.size ≤ 1000000 := named_small.2 s (List.mem_of_getElem? hs)
     have cj : wr.cell? ⟨bn2, j, none⟩ = some (.string s) := by rw [kcells_of hbn]; simp [hs]
     have hbl := lt_of_block hbn
     have hlen : (([obP] ++ uN.map (bcB ⟨#[79, 98, 106, 101, 99, 116]⟩)) ++ (thN.take j).map (bcB ⟨#[84, 104, 114, 111, 119, 97, 98, 108, 101]⟩)).length = 5 + j := by
      rw [List.length_append, List.length_map, List.length_take]
      have : thN.length = 9 := rfl
      have : (([obP] ++ uN.map (bcB ⟨#[79, 98, 106, 101, 99, 116]⟩)) : List PC).length = 5 := rfl
      omega
     obtain ⟨vs, hv1, hv2, hv3⟩ := hown
     have PUSH := Lib.hid (fun (W w' : World) (v' : Value) (hW : Below wr.heap.size wr W) => OwnCs.push (v' := v') (w' := w') hbs hW (c := bcB ⟨#[84, 104, 114, 111, 119, 97, 98, 108, 101]⟩ s) (x := .agg #[.string s, .string ⟨#[84, 104, 114, 111, 119, 97, 98, 108, 101]⟩, .slice none 0 0, .bool false, .bool false, .bool false, .int .i64 (-1)]) (by rw [hlen]; exact bcB_at _ _ _ (decide_eq_false (by omega)) _ _ hsz (by decide)) vs hv1 hv2 hv3)
     rw [hlen] at hv3 PUSH
     obtain ⟨a0, c0, rfl⟩ := hown_form hv3
     have HR := Lib.hid hv3
     have HS := Lib.hid hs
     clear hbn hb hs hlen hv1 hv2 hv3
     go_wp2_with (first | (at_builtin; refine hwpList_append_own2 rfl (.tmp 30) (.tmp 36) 102 rfl w.heap.size 119 i0 (.agg #[.string ⟨#[]⟩, .string ⟨#[]⟩, .slice none 0 0, .bool false, .bool false, .bool false, .int .i64 0]) 7 72 und102 hi0 hz0 hz1 hz2 rfl (by decide) (.slice a0 (5 + j) c0) (5 + j) _ rfl (World.ownsRow.alloc HR.out _) ⟨_, 0, none⟩ 1 1 [.string s, .string ⟨#[84, 104, 114, 111, 119, 97, 98, 108, 101]⟩, .slice none 0 0, .bool false, .bool false, .bool false, .int .i64 (-1)] rfl rfl (knew_at _ [.string s, .string ⟨#[84, 104, 114, 111, 119, 97, 98, 108, 101]⟩, .slice none 0 0, .bool false, .bool false, .bool false, .int .i64 (-1)] 119 _ (by simp)) (fun u hu => by simp only [List.mem_cons, List.not_mem_nil, or_false] at hu; rcases hu with rfl | rfl | rfl | rfl | rfl | rfl | rfl <;> rfl) (by unfold maxLen; omega) (by omega) (by simp; omega) ?_; intro v3 w3 own3 hg3 hm3; have PU := Lib.hid (PUSH.out _ _ _ ((Below.refl _ _).alloc (Nat.le_refl _) _) hg3 own3); obtain ⟨a3, c3, rfl⟩ := hown_form own3; clear own3 hg3 hm3) | (refine hwpList_build119 rfl (.tmp 35) rfl (.string s) (.string ⟨#[84, 104, 114, 111, 119, 97, 98, 108, 101]⟩) (.slice none 0 0) (.bool false) (.bool false) (.bool false) (.int .i64 (-1)) rfl ?_))
     go_roundg (gk - 1)
     case measure => omega
     case rel =>
      refine ⟨j + 1, by go_num, by omega, ?_, PU.out.2.other _ _ _ _ (by decide) HBN.out, HB.out.trans PU.out.2.below⟩
      rw [List.take_add_one, HS.out, List.map_append, ← List.append_assoc]
      exact PU.out.1
    ·have hjn : j = 9 := by omega
     subst hjn
     have e : ([obP] ++ uN.map (bcB ⟨#[79, 98, 106, 101, 99, 116]⟩)) ++ (thN.take 9).map (bcB ⟨#[84, 104, 114, 111, 119, 97, 98, 108, 101]⟩) = ([obP] ++ uN.map (bcB ⟨#[79, 98, 106, 101, 99, 116]⟩)) ++ thN.map (bcB ⟨#[84, 104, 114, 111, 119, 97, 98, 108, 101]⟩) := rfl
     rw [e] at hown
     obtain ⟨a4, c4, rfl⟩ := hown.form
     have O3 := Lib.hid hown
     have B3 := Lib.hid hb
     obtain ⟨V3x, hV2⟩ : ∃ x, x = wr := ⟨_, rfl⟩
     subst hV2
     clear hown hbn hb e
     go_wp2
     go_ret
     refine ⟨_, rfl, ?_, B3.out⟩
     have e : builtP = [obP] ++ uN.map (bcB ⟨#[79, 98, 106, 101, 99, 116]⟩) ++ thN.map (bcB ⟨#[84, 104, 114, 111, 119, 97, 98, 108, 101]⟩) := rfl
     rw [e]
     exact O3.out
theorem flagE (f : Fl) (h : f.fl = 0 ∨ f.fl = 2 ∨ f.fl = 3) : classE f = if tagged f.pool f.this 4 = true then (if noneB f.pool f.super = true then (if 16 < f.ifs.length then 3 else if f.ifs.all (fun i => tagged f.pool i 4) = true then 0 else 7) else 7) else 7 := by
 unfold classE
 rw [if_pos h]
set_option maxRecDepth 1000000 in
set_option maxHeartbeats 12800000 in
theorem refHead_in {B : Nat} (f : Fl) (v : Value) (w : World) (hf : FileAt B w v f) (hB : B ≤ w.heap.size) (h1 : tagged f.pool f.this 4 = true) (h2 : noneB f.pool f.super = true) (hfl : f.fl = 0 ∨ f.fl = 2 ∨ f.fl = 3) :
    Calls Tryz.prog 126 #[v] w fun e w' => e = .returned (.int .i64 (classE f)) ∧ Below w.heap.size w w' := by
  have HR := Lib.hid (show classE f = if 16 < f.ifs.length then 3 else if f.ifs.all (fun i => tagged f.pool i 4) = true then 0 else 7 by rw [flagE f hfl, if_pos h1, if_pos h2])
  obtain ⟨hm1, hm2, hm3, hm4⟩ := hf.max
  have HT := Lib.hid (fun r V W hW hWB i h => refTagged_at (B := B) r f V W hW hWB i 4 h)
  obtain ⟨Ap, cp, Ai, ci, Af, cf, Am, cm, rfl, hi⟩ := id hf
  have HI := Lib.hid hi
  have FL0 := Lib.hid (hf.alloc hB (.cells #[.slice Ap f.pool.length cp, .int .i64 f.fl, .int .i64 f.this, .int .i64 f.super, .slice Ai f.ifs.length ci, .slice Af f.fds.length cf, .slice Am f.mts.length cm] 94))
  have BE0 := Lib.hid ((Below.refl w.heap.size w).alloc (Nat.le_refl _) (.cells #[.slice Ap f.pool.length cp, .int .i64 f.fl, .int .i64 f.this, .int .i64 f.super, .slice Ai f.ifs.length ci, .slice Af f.fds.length cf, .slice Am f.mts.length cm] 94))
  have BF0 := Lib.hid (FBox.new Ap cp Ai ci Af cf Am cm f w)
  have H1 := Lib.hid h1
  have H2 := Lib.hid h2
  obtain ⟨t2, ht2⟩ : ∃ t, tagged f.pool f.super 4 = t := ⟨_, rfl⟩
  have HT2 := Lib.hid ht2
  have hsup : (f.super = 0 ∨ (f.super ≠ 0 ∧ t2 = true)) := by
    unfold noneB at h2
    rw [ht2] at h2
    simp only [Bool.or_eq_true, decide_eq_true_eq] at h2
    by_cases h : f.super = 0
    · exact .inl h
    · exact .inr ⟨h, h2.resolve_left h⟩
  clear hi hf h1 h2 ht2
  have key : (f.fl == 0) = true ∨ (((f.fl == 0) = false) ∧ ((f.fl == 2) = true ∨ ((f.fl == 2) = false ∧ (f.fl == 3) = true))) := by
    rcases hfl with h | h | h <;> simp [h]
  clear hfl
  have ksup : (f.super == 0) = true ∨ ((f.super == 0) = false ∧ t2 = true) := by
    rcases hsup with h | ⟨h, h'⟩
    · exact .inl (by simpa using h)
    · exact .inr ⟨by simpa using h, h'⟩
  clear hsup
  rcases key with k0 | ⟨k0, k2 | ⟨k2, k3⟩⟩
  all_goals
    rcases ksup with s0 | ⟨s0, rfl⟩
    all_goals
      have k0' : (f.fl != 0) = !(f.fl == 0) := rfl
      have k2' : (f.fl != 2) = !(f.fl == 2) := rfl
      have k3' : (f.fl != 3) = !(f.fl == 3) := rfl
      have s0' : (f.super != 0) = !(f.super == 0) := rfl
      rw [k0] at k0'
      first | rw [k2] at k2' | clear k2'
      first | rw [k3] at k3' | clear k3'
      rw [s0] at s0'
      simp only [Bool.not_true, Bool.not_false] at *
      go_enter Tryz.func126, Tryz.ntmps126
      go_wp2_with fail
      refine (HT.out true _ _ FL0.out (Nat.le_trans hB BE0.out.size) _ H1.out).mono ?_
      rintro e w1 ⟨rfl, hb⟩
      have BE1 := Lib.hid (Below.link BE0.out hb)
      have FL1 := Lib.hid (FL0.out.below hb (Nat.le_trans hB BE0.out.size))
      have BF1 := Lib.hid (BF0.out.below hb BF0.out.lt)
      have ltf1 := BF1.out.lt
      clear hb
      obtain ⟨c0, c1, c2, c3, c4, c5, c6⟩ := BF1.out.cells
      go_wp2_with fail
      refine (HT.out _ _ _ FL1.out (Nat.le_trans hB BE1.out.size) _ HT2.out).mono ?_
      rintro e w2 ⟨rfl, hb⟩
      have BE2 := Lib.hid (Below.link BE1.out hb)
      have FL2 := Lib.hid (FL1.out.below hb (Nat.le_trans hB BE1.out.size))
      have BF2 := Lib.hid (BF1.out.below hb BF1.out.lt)
      have ltf2 := BF2.out.lt
      clear hb
      clear c0 c1 c2 c3 c4 c5 c6
      obtain ⟨c0, c1, c2, c3, c4, c5, c6⟩ := BF2.out.cells
      by_cases h16 : 16 < f.ifs.length
      · have h16' : (16 : Int) < (f.ifs.length : Int) := by omega
        have HRR := Lib.hid (show classE f = 3 by rw [HR.out, if_pos h16])
        clear h16
        go_wp2
        go_ret
        exact ⟨ret_i HRR.out.symm, BE2.out⟩
      · have h16' : (f.ifs.length : Int) ≤ 16 := by omega
        have HRR := Lib.hid (show classE f = if f.ifs.all (fun i => tagged f.pool i 4) = true then 0 else 7 by rw [HR.out, if_neg h16])
        clear h16
        go_wp2
        go_loopg [5] f.ifs.length (fun g i wx => ∃ k : Nat, i = .int .i64 k ∧ k + g = f.ifs.length ∧ (∀ (j : Nat) (t : Int), j < k → f.ifs[j]? = some t → tagged f.pool t 4 = true) ∧ Below w2.heap.size w2 wx)
        case atStart => exact ⟨0, rfl, by omega, fun j t hj => by omega, Below.refl _ _⟩
        case round =>
          obtain ⟨k, rfl, hkg, hok, hb⟩ := hrel
          have HOK := Lib.hid hok
          have BE3 := Lib.hid (Below.link BE2.out hb)
          have FL3 := Lib.hid (FL2.out.below hb (Nat.le_trans hB BE2.out.size))
          have BF3 := Lib.hid (BF2.out.below hb BF2.out.lt)
          have B23 := Lib.hid hb
          have hs23 := hb.size
          have ltf3 := BF3.out.lt
          clear hb hok c0 c1 c2 c3 c4 c5 c6
          obtain ⟨c0, c1, c2, c3, c4, c5, c6⟩ := BF3.out.cells
          by_cases hlt : k < f.ifs.length
          · have hgg : gk - 1 < gk := by omega
            have hx := List.getElem?_eq_getElem hlt
            generalize f.ifs[k] = x at hx
            have HI3 := HI.out.keep (w' := wr) (fun p hp => BE3.out.cell (p := p) (by omega))
            obtain ⟨b2, o2, rfl, hb2, x0⟩ := HI3.ifs.at_ hx
            have HX := Lib.hid hx
            obtain ⟨tx, htx⟩ : ∃ t, tagged f.pool x 4 = t := ⟨_, rfl⟩
            have HTX := Lib.hid htx
            have FLd := FL3.out.drew
            have BEd := BE3.out
            have BFd := BF3.out
            have hsz : w.heap.size + 1 ≤ wr.heap.size := by omega
            have hwk : IntKind.i64.wrap (k : Int) = k := IntWalk.i64_in _ (by omega)
            have hb2w : b2 < w.heap.size + 1 := by omega
            clear hx HI3 htx
            go_wp2
            go_region_held3 (fun w' => w'.cell? ⟨w.heap.size, 0, none⟩ = some (.slice Ap f.pool.length cp) ∧ w'.cell? ⟨w.heap.size, 1, none⟩ = some (.int .i64 f.fl) ∧ w'.cell? ⟨w.heap.size, 2, none⟩ = some (.int .i64 f.this) ∧ w'.cell? ⟨w.heap.size, 3, none⟩ = some (.int .i64 f.super) ∧ w'.cell? ⟨w.heap.size, 4, none⟩ = some (.slice (some ⟨b2, o2, none⟩) f.ifs.length ci) ∧ w'.cell? ⟨w.heap.size, 5, none⟩ = some (.slice Af f.fds.length cf) ∧ w'.cell? ⟨w.heap.size, 6, none⟩ = some (.slice Am f.mts.length cm) ∧ w'.cell? ⟨b2, o2 + k, none⟩ = some (.int .i64 x) ∧ FileAt B w' (.agg #[.slice Ap f.pool.length cp, .int .i64 f.fl, .int .i64 f.this, .int .i64 f.super, .slice (some ⟨b2, o2, none⟩) f.ifs.length ci, .slice Af f.fds.length cf, .slice Am f.mts.length cm]) f ∧ w.heap.size + 1 ≤ w'.heap.size ∧ Below w.heap.size w w' ∧ Below w2.heap.size w2 w')
              (first
                | exact ⟨c0, c1, c2, c3, c4, c5, c6, x0, FLd, hsz, BEd.drew, B23.out.drew⟩
                | (go_split_ands
                   refine ⟨?_, ?_, ?_, ?_, ?_, ?_, ?_, ?_, ?_, ?_, ?_, ?_⟩
                   all_goals first
                     | assumption
                     | exact keepc hb (B := w.heap.size + 1) (by omega) (by omega) (by assumption)
                     | exact FileAt.below (by assumption) hb (by omega)
                     | exact Nat.le_trans (by assumption) hb.size
                     | exact Below.link (by assumption) hb))
              ((go_at_call 117; refine (HT.out tx _ _ (by first | assumption | (go_split_ands; assumption)) (by go_split_ands; omega) _ HTX.out).mono ?_; rintro e wi ⟨rfl, hb⟩))
            clear FLd BEd BFd hsz hwk c0 c1 c2 c3 c4 c5 c6 x0
            go_split_ands
            have BI := Lib.hid (show Below w.heap.size w wi by assumption)
            have BI2 := Lib.hid (show Below w2.heap.size w2 wi by assumption)
            cases tx with
            | true =>
              go_wp2
              go_roundg (gk - 1)
              case measure => exact hgg
              case rel =>
                refine ⟨k + 1, by go_num, by omega, fun j t hj ht => ?_, BI2.out⟩
                rcases Nat.lt_or_eq_of_le (Nat.le_of_lt_succ hj) with h | rfl
                · exact HOK.out j t h ht
                · rw [HX.out] at ht; cases ht; exact HTX.out
            | false =>
              have HNO := Lib.hid (show classE f = 7 by
                rw [HRR.out, if_neg]
                intro h
                rw [List.all_eq_true] at h
                have := h x (List.mem_of_getElem? HX.out)
                rw [HTX.out] at this
                cases this)
              go_wp2
              go_ret
              exact ⟨ret_i HNO.out.symm, BI.out⟩
          · have HYES := Lib.hid (show classE f = 0 by
              rw [HRR.out, if_pos]
              rw [List.all_eq_true]
              intro t ht
              obtain ⟨j, hj⟩ := List.mem_iff_getElem?.1 ht
              exact HOK.out j t (by have := (List.getElem?_eq_some_iff.1 hj).1; omega) hj)
            go_wp2
            go_ret
            exact ⟨ret_i HYES.out.symm, BE3.out⟩
set_option maxRecDepth 1000000 in
set_option maxHeartbeats 6400000 in
theorem refHead_any {B : Nat} (f : Fl) (v : Value) (w : World) (hf : FileAt B w v f) (hB : B ≤ w.heap.size) :
  Calls Tryz.prog 126 #[v] w fun e w' => e = .returned (.int .i64 (classE f)) ∧ Below w.heap.size w w' := by
 by_cases hfl : f.fl = 0 ∨ f.fl = 2 ∨ f.fl = 3
 ·cases h1 : tagged f.pool f.this 4 with
  | true =>
   cases h2 : noneB f.pool f.super with
   | true => exact refHead_in f v w hf hB h1 h2 hfl
   | false =>
    have HRR := Lib.hid (show classE f = 7 by rw [flagE f hfl, if_pos h1, if_neg (by rw [h2]; decide)])
    have hs : f.super ≠ 0 ∧ tagged f.pool f.super 4 = false := by
     unfold noneB at h2
     simp only [Bool.or_eq_false_iff, decide_eq_false_iff_not] at h2
     exact h2
    obtain ⟨hm1, hm2, hm3, hm4⟩ := hf.max
    have HT := Lib.hid (fun r V W hW hWB i h => refTagged_at (B := B) r f V W hW hWB i 4 h)
    obtain ⟨Ap, cp, Ai, ci, Af, cf, Am, cm, rfl, hi⟩ := id hf
    have FL0 := Lib.hid (hf.alloc hB (.cells #[.slice Ap f.pool.length cp, .int .i64 f.fl, .int .i64 f.this, .int .i64 f.super, .slice Ai f.ifs.length ci, .slice Af f.fds.length cf, .slice Am f.mts.length cm] 94))
    have BE0 := Lib.hid ((Below.refl w.heap.size w).alloc (Nat.le_refl _) (.cells #[.slice Ap f.pool.length cp, .int .i64 f.fl, .int .i64 f.this, .int .i64 f.super, .slice Ai f.ifs.length ci, .slice Af f.fds.length cf, .slice Am f.mts.length cm] 94))
    have BF0 := Lib.hid (FBox.new Ap cp Ai ci Af cf Am cm f w)
    have H1 := Lib.hid h1
    have HT2 := Lib.hid hs.2
    have s0 : (f.super == 0) = false := by simpa using hs.1
    clear hi hf h1 h2 hs
    have key : (f.fl == 0) = true ∨ (((f.fl == 0) = false) ∧ ((f.fl == 2) = true ∨ ((f.fl == 2) = false ∧ (f.fl == 3) = true))) := by
     rcases hfl with h | h | h <;> simp [h]
    clear hfl
    rcases key with k0 | ⟨k0, k2 | ⟨k2, k3⟩⟩
    all_goals
     have k0' : (f.fl != 0) = !(f.fl == 0) := rfl
     have k2' : (f.fl != 2) = !(f.fl == 2) := rfl
     have k3' : (f.fl != 3) = !(f.fl == 3) := rfl
     have s0' : (f.super != 0) = !(f.super == 0) := rfl
     rw [k0] at k0'
     first | rw [k2] at k2' | clear k2'
     first | rw [k3] at k3' | clear k3'
     first | rw [s0] at s0' | clear s0'
     simp only [Bool.not_true, Bool.not_false] at *
     go_enter Tryz.func126, Tryz.ntmps126
     go_wp2_with fail
     refine (HT.out true _ _ FL0.out (Nat.le_trans hB BE0.out.size) _ H1.out).mono ?_
     rintro e w1 ⟨rfl, hb⟩
     have BE1 := Lib.hid (Below.link BE0.out hb)
     have FL1 := Lib.hid (FL0.out.below hb (Nat.le_trans hB BE0.out.size))
     have BF1 := Lib.hid (BF0.out.below hb BF0.out.lt)
     have ltf1 := BF1.out.lt
     clear hb
     obtain ⟨c0, c1, c2, c3, c4, c5, c6⟩ := BF1.out.cells
     go_wp2_with fail
     refine (HT.out _ _ _ FL1.out (Nat.le_trans hB BE1.out.size) _ HT2.out).mono ?_
     rintro e w2 ⟨rfl, hb⟩
     have BE2 := Lib.hid (Below.link BE1.out hb)
     have FL2 := Lib.hid (FL1.out.below hb (Nat.le_trans hB BE1.out.size))
     have BF2 := Lib.hid (BF1.out.below hb BF1.out.lt)
     have ltf2 := BF2.out.lt
     clear hb
     clear c0 c1 c2 c3 c4 c5 c6
     obtain ⟨c0, c1, c2, c3, c4, c5, c6⟩ := BF2.out.cells
     go_wp2
     go_ret
     exact ⟨ret_i HRR.out.symm, BE2.out⟩
  | false =>
   have HRR := Lib.hid (show classE f = 7 by rw [flagE f hfl, if_neg (by rw [h1]; decide)])
   obtain ⟨hm1, hm2, hm3, hm4⟩ := hf.max
   have HT := Lib.hid (fun r V W hW hWB i h => refTagged_at (B := B) r f V W hW hWB i 4 h)
   obtain ⟨Ap, cp, Ai, ci, Af, cf, Am, cm, rfl, hi⟩ := id hf
   have FL0 := Lib.hid (hf.alloc hB (.cells #[.slice Ap f.pool.length cp, .int .i64 f.fl, .int .i64 f.this, .int .i64 f.super, .slice Ai f.ifs.length ci, .slice Af f.fds.length cf, .slice Am f.mts.length cm] 94))
   have BE0 := Lib.hid ((Below.refl w.heap.size w).alloc (Nat.le_refl _) (.cells #[.slice Ap f.pool.length cp, .int .i64 f.fl, .int .i64 f.this, .int .i64 f.super, .slice Ai f.ifs.length ci, .slice Af f.fds.length cf, .slice Am f.mts.length cm] 94))
   have BF0 := Lib.hid (FBox.new Ap cp Ai ci Af cf Am cm f w)
   have H1 := Lib.hid h1
   obtain ⟨t2, ht2⟩ : ∃ t, tagged f.pool f.super 4 = t := ⟨_, rfl⟩
   have HT2 := Lib.hid ht2
   clear hi hf h1 ht2
   have key : (f.fl == 0) = true ∨ (((f.fl == 0) = false) ∧ ((f.fl == 2) = true ∨ ((f.fl == 2) = false ∧ (f.fl == 3) = true))) := by
    rcases hfl with h | h | h <;> simp [h]
   clear hfl
   rcases key with k0 | ⟨k0, k2 | ⟨k2, k3⟩⟩
   all_goals
    obtain ⟨sz, s0⟩ : ∃ q, (f.super == 0) = q := ⟨_, rfl⟩
    have k0' : (f.fl != 0) = !(f.fl == 0) := rfl
    have k2' : (f.fl != 2) = !(f.fl == 2) := rfl
    have k3' : (f.fl != 3) = !(f.fl == 3) := rfl
    have s0' : (f.super != 0) = !(f.super == 0) := rfl
    rw [k0] at k0'
    first | rw [k2] at k2' | clear k2'
    first | rw [k3] at k3' | clear k3'
    first | rw [s0] at s0' | clear s0'
    simp only [Bool.not_true, Bool.not_false] at *
    cases sz
    all_goals
     go_enter Tryz.func126, Tryz.ntmps126
     go_wp2_with fail
     refine (HT.out false _ _ FL0.out (Nat.le_trans hB BE0.out.size) _ H1.out).mono ?_
     rintro e w1 ⟨rfl, hb⟩
     have BE1 := Lib.hid (Below.link BE0.out hb)
     have FL1 := Lib.hid (FL0.out.below hb (Nat.le_trans hB BE0.out.size))
     have BF1 := Lib.hid (BF0.out.below hb BF0.out.lt)
     have ltf1 := BF1.out.lt
     clear hb
     obtain ⟨c0, c1, c2, c3, c4, c5, c6⟩ := BF1.out.cells
     go_wp2_with fail
     refine (HT.out _ _ _ FL1.out (Nat.le_trans hB BE1.out.size) _ HT2.out).mono ?_
     rintro e w2 ⟨rfl, hb⟩
     have BE2 := Lib.hid (Below.link BE1.out hb)
     have FL2 := Lib.hid (FL1.out.below hb (Nat.le_trans hB BE1.out.size))
     have BF2 := Lib.hid (BF1.out.below hb BF1.out.lt)
     have ltf2 := BF2.out.lt
     clear hb
     clear c0 c1 c2 c3 c4 c5 c6
     obtain ⟨c0, c1, c2, c3, c4, c5, c6⟩ := BF2.out.cells
     go_wp2
     go_ret
     exact ⟨ret_i HRR.out.symm, BE2.out⟩
 ·have HRR := Lib.hid (show classE f = 10 by unfold classE; rw [if_neg hfl])
  obtain ⟨hm1, hm2, hm3, hm4⟩ := hf.max
  have HT := Lib.hid (fun r V W hW hWB i h => refTagged_at (B := B) r f V W hW hWB i 4 h)
  obtain ⟨Ap, cp, Ai, ci, Af, cf, Am, cm, rfl, hi⟩ := id hf
  have FL0 := Lib.hid (hf.alloc hB (.cells #[.slice Ap f.pool.length cp, .int .i64 f.fl, .int .i64 f.this, .int .i64 f.super, .slice Ai f.ifs.length ci, .slice Af f.fds.length cf, .slice Am f.mts.length cm] 94))
  have BE0 := Lib.hid ((Below.refl w.heap.size w).alloc (Nat.le_refl _) (.cells #[.slice Ap f.pool.length cp, .int .i64 f.fl, .int .i64 f.this, .int .i64 f.super, .slice Ai f.ifs.length ci, .slice Af f.fds.length cf, .slice Am f.mts.length cm] 94))
  have BF0 := Lib.hid (FBox.new Ap cp Ai ci Af cf Am cm f w)
  have k0 : (f.fl == 0) = false := by simp; omega
  have k2 : (f.fl == 2) = false := by simp; omega
  have k3 : (f.fl == 3) = false := by simp; omega
  have k0' : (f.fl != 0) = true := by simp; omega
  have k2' : (f.fl != 2) = true := by simp; omega
  have k3' : (f.fl != 3) = true := by simp; omega
  clear hi hf hfl
  go_enter Tryz.func126, Tryz.ntmps126
  go_wp2
  go_ret
  exact ⟨ret_i HRR.out.symm, BE0.out⟩
end Go.Proofs.YtmaknddlgppinaaGreatDoor
