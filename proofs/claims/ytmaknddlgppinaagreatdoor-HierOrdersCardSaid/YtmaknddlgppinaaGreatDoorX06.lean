/-
  CUT and joined from the texts of this seat: Ic Id Ie Kc Plain W1
-/
import Derived.Test.YtmaknddlgppinaaGreatDoorX05
import Derived.Test.YtmaknddlgppinaaGreatDoorX03
import Derived.Test.YtmaknddlgppinaaGreatDoorRows
import Derived.Lib.DecodeN
import Derived.Laws.Cover4
import Derived.WalkKit
import Derived.WalkSpells
import Derived.WalkLawsBesides
import Derived.BigQuiet
import Derived.Lib.Hide
import Derived.Lib.IndexBytes
import Derived.LoopN
set_option linter.unusedVariables false
set_option linter.unusedSimpArgs false
/-! Ic -/
namespace Go.Proofs.YtmaknddlgppinaaGreatDoor
open Go.RowKit

theorem und45c : Tryz.prog.underlying 45 = some (.slice 9) := by kernel_rfl
theorem info9 : ∃ i, Tryz.prog.info? 9 = some i ∧ i.zero = some (.string ⟨#[]⟩) ∧ i.size = 1 ∧ i.bytes = 16 := info_parts (by kernel_rfl)
section
variable {B tb mb cap ow : Nat} {A : Option Addr} {cs : List PC} {cl sl : Nat → Nat} {S : Nat → List Nat} {w : World}
/-- A row of texts that the call owns grows by one. -/
theorem OwnS.snoc {wr w3 : World} {base : Nat} {v v3 : Value} {ns : List (List UInt8)} {ss : List ByteArray} (h1 : ss.map (fun s => s.data.toList) = ns) (h2 : ∀ s ∈ ss, s.size ≤ 1000000) {s : ByteArray} {nm : List UInt8} (hs : s.data.toList = nm) (hz : s.size ≤ 1000000)
    (own3 : w3.ownsRow base 9 1 v3 (ss.length + 1) (scells ss ++ [.string s])) : OwnS w3 base v3 (ns ++ [nm]) := by
  refine ⟨ss ++ [s], by simp [h1, hs], ?_, ?_⟩
  · intro t ht
    rcases List.mem_append.1 ht with ht | ht
    · exact h2 t ht
    · obtain rfl := List.mem_singleton.1 ht
      exact hz
  · rw [List.length_append, List.length_singleton]
    unfold scells at own3 ⊢
    rw [List.map_append]
    exact own3
theorem Ch.nodup {cs : List PC} (G : Good cs) {i : Nat} {l : List Nat} (h : Ch cs i l) : l.Nodup := by
  induction h with
  | last _ => simp
  | @next i j l hs hl ih =>
    refine List.nodup_cons.2 ⟨fun hm => ?_, ih⟩
    rcases hl.mem hm with e | e
    · exact G.acyc i (.one (by have := sup_up hs; rwa [← e] at this))
    · exact G.acyc i (.more (sup_up hs) e)
theorem nms_snoc {cs : List PC} {l : List Nat} {j x : Nat} {c : PC} (hx : l[j]? = some x) (hc : cs[x]? = some c) : nms cs (l.take (j + 1)) = nms cs (l.take j) ++ [c.name] := by
  unfold nms
  rw [List.take_add_one, hx, List.map_append]
  simp [hc]
/-- Where a chain goes on: to its next class, or to none. -/
def nextP (cs : List PC) (cl : Nat → Nat) (l : List Nat) (k : Nat) : Value := ptrV cl (l[k]?)
set_option maxRecDepth 1000000 in
set_option maxHeartbeats 3200000 in
/-- The chain from a class on. -/
theorem Chain_any (h : HT B tb mb A cap ow cs cl sl S w) (s : ByteArray) (hs : s.size ≤ 1000000) :
    Calls Tryz.prog 31 #[.pointer (some ⟨tb, 0, none⟩), .string s] w fun e w' => ∃ v l, e = .returned v ∧ (∀ i, ix cs s.data.toList = some i → Ch cs i l) ∧ (ix cs s.data.toList = none → l = []) ∧ OwnS w' w.heap.size v (nms cs l) ∧ Below w.heap.size w w' := by
  obtain ⟨l, hl1, hl2⟩ : ∃ l, (∀ i, ix cs s.data.toList = some i → Ch cs i l) ∧ (ix cs s.data.toList = none → l = []) := by
    cases hx : ix cs s.data.toList with
    | none => exact ⟨[], fun i hi => (by cases hi), fun _ => rfl⟩
    | some i =>
      obtain ⟨l, hl⟩ := ch_some h.good.acyc _ i (Nat.le_refl _)
      exact ⟨l, fun j hj => (by cases hj; exact hl), fun hn => (by cases hn)⟩
  have hstart : ptrV cl (ix cs s.data.toList) = nextP cs cl l 0 := by
    unfold nextP
    cases hx : ix cs s.data.toList with
    | none => rw [hl2 hx]; rfl
    | some i => rw [(hl1 i hx).head]
  have hlt : ∀ x ∈ l, x < cs.length := fun x hx => by
    cases hi : ix cs s.data.toList with
    | none => rw [hl2 hi] at hx; cases hx
    | some i => exact (hl1 i hi).lt (ix_lt hi) hx
  have hnext : ∀ k x, l[k]? = some x → ptrV cl (sup cs x) = nextP cs cl l (k + 1) := fun k x hx => by
    unfold nextP
    cases hi : ix cs s.data.toList with
    | none => rw [hl2 hi] at hx; cases hx
    | some i =>
      cases hsx : sup cs x with
      | none =>
        have := (hl1 i hi).step_none hx hsx
        rw [List.getElem?_eq_none (by omega)]
      | some y => rw [(hl1 i hi).step_some hx hsx]
  have hll : l.length ≤ 1000 := by
    cases hi : ix cs s.data.toList with
    | none => rw [hl2 hi]; simp
    | some i =>
      have hnd : l.Nodup := (hl1 i hi).nodup h.good
      have := nodup_le hnd (m := List.range cs.length) (fun x hx => List.mem_range.2 (hlt x hx))
      have h2 := h.tab.few
      simp at this
      omega
  have c1 : w.cell? ⟨tb, 1, none⟩ = some (.map (some mb)) := by rw [kcells_of h.t0]; rfl
  have hlk : (Instr.lookup 110 (.map (some mb)) (.string s) false).run Tryz.prog w = .ok (nextP cs cl l 0) w := by
    rw [← hstart]
    exact h.map.look s (by unfold maxLen; omega)
  have H := Lib.hid h
  have HN := Lib.hid hnext
  have HLT := Lib.hid hlt
  have HL := Lib.hid (And.intro hl1 hl2)
  obtain ⟨i0, hi0, hz0, hz1, hz2⟩ := info9
  obtain ⟨p0, hp0⟩ : ∃ p, nextP cs cl l 0 = .pointer p := by unfold nextP; cases l[0]? <;> exact ⟨_, rfl⟩
  have HP0 := Lib.hid hp0
  rw [hp0] at hlk
  clear h hstart hlt hnext hl1 hl2 hp0
  go_enter Tryz.func31, Tryz.ntmps31
  go_wp2
  go_loopg [6, 5] l.length (fun gk iv vv wx => ∃ (j : Nat) (ss : List ByteArray), iv = nextP cs cl l j ∧ j + gk = l.length ∧ ss.map (fun s => s.data.toList) = nms cs (l.take j) ∧ (∀ s ∈ ss, s.size ≤ 1000000) ∧ wx.ownsRow w.heap.size 9 1 vv ss.length (scells ss) ∧ ss.length = j ∧ Below w.heap.size w wx)
  case atStart => exact ⟨0, [], HP0.out.symm, by omega, rfl, by simp, World.ownsRow_nil _ _ _ _, rfl, Below.refl _ _⟩
  case round =>
    obtain ⟨j, ss, rfl, hjg, hss, hsz, hown, hsl, hb⟩ := hrel
    have HB := Lib.hid hb
    have hbs := hb.size
    have h' := H.out.below (hb.mono H.out.hB)
    by_cases hj : j < l.length
    · have hgg : gk - 1 < gk := by omega
      have hx := List.getElem?_eq_getElem hj
      generalize l[j] = x at hx
      have hxl := HLT.out x (List.mem_of_getElem? hx)
      have hcx := List.getElem?_eq_getElem hxl
      generalize cs[x] = c at hcx
      obtain ⟨k, k1, k2, k3, k4, k5, k6⟩ := h'.cls hcx
      have n0 : wr.cell? ⟨cl x, 0, none⟩ = some (.string k.name) := k1.cell 0
      have n8 : wr.cell? ⟨cl x, 8, none⟩ = some (nextP cs cl l (j + 1)) := by
        rw [← HN.out j x hx, sup_at hcx, ← k4]
        exact k1.cell 8
      have e0 : nextP cs cl l j = .pointer (some ⟨cl x, 0, none⟩) := by unfold nextP; rw [hx]; rfl
      rw [e0]
      obtain ⟨p1, hp1⟩ : ∃ p, nextP cs cl l (j + 1) = .pointer p := by unfold nextP; cases l[j + 1]? <;> exact ⟨_, rfl⟩
      rw [hp1] at n8
      have HP1 := Lib.hid hp1
      have HNM := Lib.hid (show k.name.data.toList = c.name from k2.nmd.nm)
      have HNZ := Lib.hid k2.nmd.nsz
      have HX := Lib.hid hx
      have HCX := Lib.hid hcx
      have HSS := Lib.hid hss
      have HSZ := Lib.hid hsz
      have HOWN := Lib.hid hown
      have hlt := lt_of_block k1
      have K1 := Lib.hid k1
      have HNE := Lib.hid (hown_ne hown k1 (by decide))
      have N8 := Lib.hid n8
      obtain ⟨a0, c0, rfl⟩ := hown_form hown
      have hsm : ss.length ≤ 1000 := by omega
      have hwz : w.heap.size ≤ wr.heap.size := hb.size
      clear h' k1 k2 k3 k4 k5 k6 e0 hp1 hss hsz hown hx hcx hb
      go_wp2_with (at_builtin; refine hwpList_append_own2 rfl (.tmp 19) (.tmp 25) 45 rfl w.heap.size 9 i0 (.string ⟨#[]⟩) 1 16 und45c hi0 hz0 hz1 hz2 rfl (by decide) (.slice a0 ss.length c0) ss.length _ rfl (World.ownsRow.alloc HOWN.out _) ⟨_, 0, none⟩ 1 1 [.string k.name] rfl rfl (knew_at _ [.string k.name] 9 _ (by simp)) (fun u hu => by simp at hu; subst hu; rfl) (by unfold maxLen; omega) (by omega) (by simp; omega) ?_; intro v3 w3 own3 hg3 hm3; obtain ⟨a3, c3, rfl⟩ := hown_form own3; have OW3 := Lib.hid own3; have HG3 := Lib.hid hg3; have K3 := grown_block hg3 (hheap_alloc_lt K1.out) HNE.out; have n83 : w3.cell? ⟨cl x, 8, none⟩ = some (.pointer p1) := by { have e1 := kcells_of K3 8; have e2 := N8.out; rw [kcells_of K1.out 8] at e2; rw [e1]; exact e2 }; clear own3 hg3 hm3 K3)
      go_roundg (gk - 1)
      case measure => exact hgg
      case rel =>
        have OW := OW3.out
        have e : (ss ++ [k.name]).length = j + 1 := by simp [hsl]
        refine ⟨j + 1, ss ++ [k.name], HP1.out.symm, by omega, ?_, ?_, ?_, e, ?_⟩
        · rw [nms_snoc HX.out HCX.out, List.map_append, HSS.out, ← HNM.out]
          rfl
        · intro t ht
          rcases List.mem_append.1 ht with ht | ht
          · exact HSZ.out t ht
          · obtain rfl := List.mem_singleton.1 ht
            exact HNZ.out
        · rw [hsl] at OW
          rw [List.length_append, List.length_singleton, hsl]
          unfold scells at OW ⊢
          rw [List.map_append]
          exact OW
        · exact Below.grown (HB.out.alloc hwz _) HG3.out (by simp; omega) (fun q hq => hown_block_ge HOWN.out q hq)
    · obtain rfl : l.length = j := by omega
      have e0 : nextP cs cl l l.length = .pointer none := by unfold nextP; rw [List.getElem?_eq_none (Nat.le_refl _)]; rfl
      rw [e0]
      obtain ⟨a0, c0, rfl⟩ := hown_form hown
      have HSS := Lib.hid hss
      have HSZ := Lib.hid hsz
      have HOWN := Lib.hid hown
      clear e0 h' hss hsz hown hb
      go_wp2
      go_ret
      have e := HSS.out
      rw [List.take_length] at e
      exact ⟨_, l, rfl, HL.out.1, HL.out.2, ⟨ss, e, HSZ.out, HOWN.out⟩, HB.out⟩
end
end Go.Proofs.YtmaknddlgppinaaGreatDoor
/-! Id -/
namespace Go.Proofs.YtmaknddlgppinaaGreatDoor
open Go.RowKit

section
variable {B tb mb cap ow : Nat} {A : Option Addr} {cs : List PC} {cl sl : Nat → Nat} {S : Nat → List Nat} {w : World}
/-- Where the row of all classes stands. -/
theorem HT.row (h : HT B tb mb A cap ow cs cl sl S w) : ∃ b o, A = some ⟨b, o, none⟩ ∧ b < B ∧ cs.length ≤ cap ∧ ∀ j, j < cs.length → w.cell? ⟨b, o + j, none⟩ = some (.pointer (some ⟨cl j, 0, none⟩)) := by
  obtain ⟨A', cap', e, h1, h2, h3⟩ := h.all
  injection e with e1 e2 e3
  subst e1; subst e3
  obtain ⟨b, o, e, hb, hc⟩ := h3.2 h.good.pos
  exact ⟨b, o, e, hb, h1, fun j hj => hc j _ (ptrs_at cl hj)⟩
set_option maxRecDepth 1000000 in
set_option maxHeartbeats 3200000 in
theorem Names_any (h : HT B tb mb A cap ow cs cl sl S w) :
    Calls Tryz.prog 28 #[.pointer (some ⟨tb, 0, none⟩)] w fun e w' => ∃ v, e = .returned v ∧ OwnS w' w.heap.size v (cs.map (·.name)) ∧ Below w.heap.size w w' := by
  obtain ⟨b, o, rfl, hb, hcap, hrow⟩ := h.row
  have c0 : w.cell? ⟨tb, 0, none⟩ = some (.slice (some ⟨b, o, none⟩) cs.length cap) := by rw [kcells_of h.t0]; rfl
  have hfew := h.tab.few
  have htl : tb < w.heap.size := lt_of_block h.t0
  obtain ⟨i0, hi0, hz0, hz1, hz2⟩ := info9
  obtain ⟨w1, hmk, hmo, hmg⟩ := run_make_own (P := Tryz.prog) w w.heap.size 45 9 i0 (.string ⟨#[]⟩) 1 und45c hi0 hz0 hz1 .i64 .i64 cs.length (by rw [hz2]; omega) (by unfold maxLen; omega) (Nat.le_refl _)
  have hb1 : Below w.heap.size w w1 := (Below.refl _ _).grown hmg (Nat.le_refl _) (fun k hk => by cases hk)
  have c01 : w1.cell? ⟨tb, 0, none⟩ = some (.slice (some ⟨b, o, none⟩) cs.length cap) := (hb1.cell (p := ⟨tb, 0, none⟩) htl).trans c0
  have H := Lib.hid h
  have HR := Lib.hid hrow
  have HMO := Lib.hid hmo
  have HB1 := Lib.hid hb1
  clear h hrow hmo hmg hb1
  go_enter Tryz.func28, Tryz.ntmps28
  go_wp2
  go_loopg [3, 17] cs.length (fun gk vv iv wx => ∃ (j : Nat) (ss : List ByteArray), iv = .int .i64 j ∧ j + gk = cs.length ∧ ss.map (fun s => s.data.toList) = (cs.take j).map (·.name) ∧ (∀ s ∈ ss, s.size ≤ 1000000) ∧ wx.ownsRow w.heap.size 9 1 vv ss.length (scells ss) ∧ ss.length = j ∧ Below w.heap.size w wx)
  case atStart => exact ⟨0, [], rfl, by omega, rfl, by simp, HMO.out, rfl, HB1.out⟩
  case round =>
    obtain ⟨j, ss, rfl, hjg, hss, hsz, hown, hsl, hbx⟩ := hrel
    have HB := Lib.hid hbx
    have hbs := hbx.size
    have h' := H.out.below (hbx.mono H.out.hB)
    by_cases hj : j < cs.length
    · have hgg : gk - 1 < gk := by omega
      have hcx := List.getElem?_eq_getElem hj
      generalize cs[j] = c at hcx
      obtain ⟨k, k1, k2, _⟩ := h'.cls hcx
      have n0 : wr.cell? ⟨cl j, 0, none⟩ = some (.string k.name) := k1.cell 0
      have r0 : wr.cell? ⟨b, o + j, none⟩ = some (.pointer (some ⟨cl j, 0, none⟩)) := (hbx.cell (p := ⟨b, o + j, none⟩) (Nat.lt_of_lt_of_le hb H.out.hB)).trans (HR.out j hj)
      have HNM := Lib.hid (show k.name.data.toList = c.name from k2.nmd.nm)
      have HNZ := Lib.hid k2.nmd.nsz
      have HCX := Lib.hid hcx
      have HSS := Lib.hid hss
      have HSZ := Lib.hid hsz
      have HOWN := Lib.hid hown
      obtain ⟨a0, c0', rfl⟩ := hown_form hown
      have hsm : ss.length ≤ 1000 := by omega
      clear h' k1 k2 hss hsz hown hcx hbx
      go_wp2_with (at_builtin; refine hwpList_append_own2 rfl (.tmp 21) (.tmp 27) 45 rfl w.heap.size 9 i0 (.string ⟨#[]⟩) 1 16 und45c hi0 hz0 hz1 hz2 rfl (by decide) (.slice a0 ss.length c0') ss.length _ rfl (World.ownsRow.alloc HOWN.out _) ⟨_, 0, none⟩ 1 1 [.string k.name] rfl rfl (knew_at _ [.string k.name] 9 _ (by simp)) (fun u hu => by simp at hu; subst hu; rfl) (by unfold maxLen; omega) (by omega) (by simp; omega) ?_; intro v3 w3 own3 hg3 hm3; obtain ⟨a3, c3, rfl⟩ := hown_form own3; have OW3 := Lib.hid own3; have HG3 := Lib.hid hg3; clear own3 hg3 hm3)
      go_roundg (gk - 1)
      case measure => exact hgg
      case rel =>
        have OW := OW3.out
        have e : (ss ++ [k.name]).length = j + 1 := by simp [hsl]
        refine ⟨j + 1, ss ++ [k.name], by go_num, by omega, ?_, ?_, ?_, e, ?_⟩
        · rw [List.take_add_one, HCX.out, List.map_append, List.map_append, HSS.out]
          show _ ++ [k.name.data.toList] = _ ++ [c.name]
          rw [HNM.out]
        · intro t ht
          rcases List.mem_append.1 ht with ht | ht
          · exact HSZ.out t ht
          · obtain rfl := List.mem_singleton.1 ht
            exact HNZ.out
        · rw [hsl] at OW
          rw [List.length_append, List.length_singleton, hsl]
          unfold scells at OW ⊢
          rw [List.map_append]
          exact OW
        · exact Below.grown (HB.out.alloc hbs _) HG3.out (by simp; omega) (fun q hq => hown_block_ge HOWN.out q hq)
    · obtain rfl : cs.length = j := by omega
      obtain ⟨a0, c0', rfl⟩ := hown_form hown
      have HSS := Lib.hid hss
      have HSZ := Lib.hid hsz
      have HOWN := Lib.hid hown
      clear h' hss hsz hown hbx
      go_wp2
      go_ret
      have e := HSS.out
      rw [List.take_length] at e
      exact ⟨_, rfl, ⟨ss, e, HSZ.out, HOWN.out⟩, HB.out⟩
end
end Go.Proofs.YtmaknddlgppinaaGreatDoor
/-! Ie -/
namespace Go.Proofs.YtmaknddlgppinaaGreatDoor
open Go.RowKit

theorem fset7 {w : World} {b : Nat} {x0 x1 x2 x3 x4 x5 x6 : Value} {t : TypeId} {m : Nat × Nat} (h : w.heap[b]? = some (.cells #[x0, x1, x2, x3, x4, x5, x6] t m)) (v0 v1 v2 v3 v4 v5 v6 : Value) :
    (((((((w.setCell ⟨b, 0, none⟩ v0).setCell ⟨b, 1, none⟩ v1).setCell ⟨b, 2, none⟩ v2).setCell ⟨b, 3, none⟩ v3).setCell ⟨b, 4, none⟩ v4).setCell ⟨b, 5, none⟩ v5).setCell ⟨b, 6, none⟩ v6).heap[b]? = some (.cells #[v0, v1, v2, v3, v4, v5, v6] t m) := by
  have h1 : (w.setCell ⟨b, 0, none⟩ v0).heap[b]? = some (.cells #[v0, x1, x2, x3, x4, x5, x6] t m) := by rw [heap_set_eq h]; rfl
  generalize w.setCell ⟨b, 0, none⟩ v0 = W0 at *
  have h2 : (W0.setCell ⟨b, 1, none⟩ v1).heap[b]? = some (.cells #[v0, v1, x2, x3, x4, x5, x6] t m) := by rw [heap_set_eq h1]; rfl
  generalize W0.setCell ⟨b, 1, none⟩ v1 = W1 at *
  have h3 : (W1.setCell ⟨b, 2, none⟩ v2).heap[b]? = some (.cells #[v0, v1, v2, x3, x4, x5, x6] t m) := by rw [heap_set_eq h2]; rfl
  generalize W1.setCell ⟨b, 2, none⟩ v2 = W2 at *
  have h4 : (W2.setCell ⟨b, 3, none⟩ v3).heap[b]? = some (.cells #[v0, v1, v2, v3, x4, x5, x6] t m) := by rw [heap_set_eq h3]; rfl
  generalize W2.setCell ⟨b, 3, none⟩ v3 = W3 at *
  have h5 : (W3.setCell ⟨b, 4, none⟩ v4).heap[b]? = some (.cells #[v0, v1, v2, v3, v4, x5, x6] t m) := by rw [heap_set_eq h4]; rfl
  generalize W3.setCell ⟨b, 4, none⟩ v4 = W4 at *
  have h6 : (W4.setCell ⟨b, 5, none⟩ v5).heap[b]? = some (.cells #[v0, v1, v2, v3, v4, v5, x6] t m) := by rw [heap_set_eq h5]; rfl
  generalize W4.setCell ⟨b, 5, none⟩ v5 = W5 at *
  rw [heap_set_eq h6]; rfl
theorem fbelow7 {B b : Nat} {a w : World} (h : Below B a w) (hb : B ≤ b) (v0 v1 v2 v3 v4 v5 v6 : Value) :
    Below B a (((((((w.setCell ⟨b, 0, none⟩ v0).setCell ⟨b, 1, none⟩ v1).setCell ⟨b, 2, none⟩ v2).setCell ⟨b, 3, none⟩ v3).setCell ⟨b, 4, none⟩ v4).setCell ⟨b, 5, none⟩ v5).setCell ⟨b, 6, none⟩ v6) :=
  ((((((h.setCell hb v0).setCell hb v1).setCell hb v2).setCell hb v3).setCell hb v4).setCell hb v5).setCell hb v6
section
variable {B tb mb cap ow : Nat} {A : Option Addr} {cs : List PC} {cl sl : Nat → Nat} {S : Nat → List Nat} {w : World}
def zeroCls : Value := .agg #[.string ⟨#[]⟩, .string ⟨#[]⟩, .slice none 0 0, .bool false, .bool false, .bool false, .int .i64 0]
theorem results25 : Tryz.f25.results = #[ResultVar.cell 4 47, ResultVar.tmp 5] := by kernel_rfl
/-- What Find answers. -/
def FindAns (cs : List PC) (ow : Nat) (nm : List UInt8) (w' : World) (e : Ending) : Prop :=
  (ix cs nm = none ∧ e = .returned (.tuple #[zeroCls, .bool false])) ∨
  ∃ i c, ∃ k : KC, ∃ ifn, ix cs nm = some i ∧ cs[i]? = some c ∧ Nmd k c ∧ SRow w'.heap.size w' ifn c.ifaces ∧ e = .returned (.tuple #[.agg #[.string k.name, .string k.super, ifn, .bool c.iface, .bool c.abs, .bool (decide (ow ≤ i)), .int .i64 c.at_], .bool true])
set_option maxRecDepth 1000000 in
set_option maxHeartbeats 3200000 in
theorem Find_any (h : HT B tb mb A cap ow cs cl sl S w) (s : ByteArray) (hs : s.size ≤ 1000000) :
    Calls Tryz.prog 25 #[.pointer (some ⟨tb, 0, none⟩), .string s] w fun e w' => FindAns cs ow s.data.toList w' e ∧ Below w.heap.size w w' := by
  have c1 : w.cell? ⟨tb, 1, none⟩ = some (.map (some mb)) := by rw [kcells_of h.t0]; rfl
  have c2 : w.cell? ⟨tb, 2, none⟩ = some (.int .i64 (ow : Int)) := by rw [kcells_of h.t0]; rfl
  have htl : tb < w.heap.size := lt_of_block h.t0
  have hlk := fun o => (h.map.same (w' := w.alloc o) (Below.heap_alloc _ _ _ h.map.lt)).look s (by unfold maxLen; omega)
  have H := Lib.hid h
  cases hx : ix cs s.data.toList with
  | none =>
    rw [hx] at hlk
    have HX := Lib.hid hx
    have hlk2 : ∀ o, (Instr.lookup 110 (.map (some mb)) (.string s) false).run Tryz.prog (w.alloc o) = .ok (.pointer none) (w.alloc o) := hlk
    clear h hlk hx
    go_enter Tryz.func25, Tryz.ntmps25
    go_wp2
    have hcell : ∀ q, (w.alloc (.cells #[.string ⟨#[]⟩, .string ⟨#[]⟩, .slice none 0 0, .bool false, .bool false, .bool false, .int .i64 0] 47)).cell? ⟨w.heap.size, q, none⟩ = (#[Value.string ⟨#[]⟩, .string ⟨#[]⟩, .slice none 0 0, .bool false, .bool false, .bool false, .int .i64 0] : Array Value)[q]? := fun q => kcells_of (hheap_new w _) q
    have z0 := hcell 0
    have z1 := hcell 1
    have z2 := hcell 2
    have z3 := hcell 3
    have z4 := hcell 4
    have z5 := hcell 5
    have z6 := hcell 6
    simp only [List.getElem?_toArray, List.getElem?_cons_succ, List.getElem?_cons_zero] at z0 z1 z2 z3 z4 z5 z6
    refine bodyPost_ret (v := .tuple #[zeroCls, .bool false]) (by simp [results, results25, go_sem, z0, z1, z2, z3, z4, z5, z6, zeroCls]) rfl ?_
    exact ⟨.inl ⟨HX.out, rfl⟩, (Below.refl _ _).alloc (Nat.le_refl _) _⟩
  | some i =>
    rw [hx] at hlk
    have HX := Lib.hid hx
    have hlk2 : ∀ o, (Instr.lookup 110 (.map (some mb)) (.string s) false).run Tryz.prog (w.alloc o) = .ok (.pointer (some ⟨cl i, 0, none⟩)) (w.alloc o) := hlk
    have hi := ix_lt hx
    have hcx := List.getElem?_eq_getElem hi
    generalize cs[i] = c at hcx
    obtain ⟨k, k1, k2, k3, k4, k5, k6⟩ := h.cls hcx
    have n0 : w.cell? ⟨cl i, 0, none⟩ = some (.string k.name) := k1.cell 0
    have n1 : w.cell? ⟨cl i, 1, none⟩ = some (.string k.super) := k1.cell 1
    have n2 : w.cell? ⟨cl i, 2, none⟩ = some k.ifn := k1.cell 2
    have n3 : w.cell? ⟨cl i, 3, none⟩ = some (.bool k.iface) := k1.cell 3
    have n4 : w.cell? ⟨cl i, 4, none⟩ = some (.bool k.abs) := k1.cell 4
    have n5 : w.cell? ⟨cl i, 5, none⟩ = some (.bool k.own) := k1.cell 5
    have n6 : w.cell? ⟨cl i, 6, none⟩ = some (.int .i64 k.at_) := k1.cell 6
    have e7 : w.cell? ⟨cl i, 7, none⟩ = some (.int .i64 (k.place : Int)) := k1.cell 7
    have n7 : w.cell? ⟨cl i, 7, none⟩ = some (.int .i64 (i : Int)) := by rw [k3] at e7; exact e7
    clear e7
    obtain ⟨aI, cI, hI, _⟩ := k2.row.length
    rw [hI] at n2
    have hlt := lt_of_block k1
    have HCL := Lib.hid (fun W (hb : Below w.heap.size w W) => cloneStr_any (B := B) (w := W) (k2.row.keep fun p hp => hb.cell (Nat.lt_of_lt_of_le hp h.hB)) k2.form k2.nmd.few)
    rw [hI] at HCL
    have K2 := Lib.hid k2
    have HCX := Lib.hid hcx
    clear h hlk hx k1 k2 k3 k4 k5 k6 hcx
    go_enter Tryz.func25, Tryz.ntmps25
    go_wp2_with fail
    refine (HCL.out _ (by first | exact ((Below.refl _ _).alloc (Nat.le_refl _) _).alloc (by simp) _)).mono ?_
    rintro e wi ⟨v', rfl, hrow, hbi⟩
    obtain ⟨aJ, cJ, rfl⟩ := hrow.form
    have q0 : wi.heap[w.heap.size]? = some (.cells #[.string ⟨#[]⟩, .string ⟨#[]⟩, .slice none 0 0, .bool false, .bool false, .bool false, .int .i64 0] 47 (0, 0)) := (hbi.block _ (by simp; omega)).trans (hheap_alloc_lt (hheap_new w _))
    have q1 : wi.heap[w.heap.size + 1]? = some (.cells #[.string k.name, .string k.super, .slice aI c.ifaces.length cI, .bool k.iface, .bool k.abs, .bool k.own, .int .i64 k.at_] 47 (0, 0)) := (hbi.block _ (by simp)).trans (hheap_at _ _ _ (by simp))
    have hbw : Below w.heap.size w wi := (((Below.refl _ _).alloc (Nat.le_refl _) _).alloc (by simp) _).trans (hbi.mono (by simp; omega))
    have m7 : wi.cell? ⟨cl i, 7, none⟩ = some (.int .i64 (i : Int)) := (hbw.cell (p := ⟨cl i, 7, none⟩) hlt).trans n7
    have m2 : wi.cell? ⟨tb, 2, none⟩ = some (.int .i64 (ow : Int)) := (hbw.cell (p := ⟨tb, 2, none⟩) htl).trans c2
    have b0 := kcells_of q1 0
    have b1 := kcells_of q1 1
    have b2 := kcells_of q1 2
    have b3 := kcells_of q1 3
    have b4 := kcells_of q1 4
    have b5 := kcells_of q1 5
    have b6 := kcells_of q1 6
    have bf := kfree_of q1
    have r0 := kcells_of q0 0
    have r1 := kcells_of q0 1
    have r2 := kcells_of q0 2
    have r3 := kcells_of q0 3
    have r4 := kcells_of q0 4
    have r5 := kcells_of q0 5
    have r6 := kcells_of q0 6
    have rf := kfree_of q0
    simp only [List.getElem?_toArray, List.getElem?_cons_succ, List.getElem?_cons_zero] at b0 b1 b2 b3 b4 b5 b6 r0 r1 r2 r3 r4 r5 r6
    have HR := Lib.hid hrow
    have HBW := Lib.hid hbw
    have Q0 := Lib.hid q0
    have Q1 := Lib.hid q1
    have hwi := hbw.size
    have hwi2 := lt_of_block q1
    clear hrow hbi hbw q0 q1
    go_wp2
    go_region
    go_wp2
    have z := fset7 (hheap_set_ne (a := ⟨w.heap.size + 1, 5, none⟩) (u := .bool (decide (ow ≤ i))) (by show w.heap.size ≠ w.heap.size + 1; omega) (hheap_set_ne (a := ⟨w.heap.size + 1, 2, none⟩) (u := .slice aJ c.ifaces.length cJ) (by show w.heap.size ≠ w.heap.size + 1; omega) Q0.out)) (.string k.name) (.string k.super) (.slice aJ c.ifaces.length cJ) (.bool k.iface) (.bool k.abs) (.bool (decide (ow ≤ i))) (.int .i64 k.at_)
    have hbe := fbelow7 (B := w.heap.size) (b := w.heap.size) ((HBW.out.setCell (p := ⟨w.heap.size + 1, 2, none⟩) (by show w.heap.size ≤ w.heap.size + 1; omega) (.slice aJ c.ifaces.length cJ)).setCell (p := ⟨w.heap.size + 1, 5, none⟩) (by show w.heap.size ≤ w.heap.size + 1; omega) (.bool (decide (ow ≤ i)))) (Nat.le_refl _) (.string k.name) (.string k.super) (.slice aJ c.ifaces.length cJ) (.bool k.iface) (.bool k.abs) (.bool (decide (ow ≤ i))) (.int .i64 k.at_)
    obtain ⟨WF, hWF⟩ : ∃ W, W = ((((((((wi.setCell ⟨w.heap.size + 1, 2, none⟩ (.slice aJ c.ifaces.length cJ)).setCell ⟨w.heap.size + 1, 5, none⟩ (.bool (decide (ow ≤ i)))).setCell ⟨w.heap.size, 0, none⟩ (.string k.name)).setCell ⟨w.heap.size, 1, none⟩ (.string k.super)).setCell ⟨w.heap.size, 2, none⟩ (.slice aJ c.ifaces.length cJ)).setCell ⟨w.heap.size, 3, none⟩ (.bool k.iface)).setCell ⟨w.heap.size, 4, none⟩ (.bool k.abs)).setCell ⟨w.heap.size, 5, none⟩ (.bool (decide (ow ≤ i)))).setCell ⟨w.heap.size, 6, none⟩ (.int .i64 k.at_) := ⟨_, rfl⟩
    rw [← hWF] at z hbe ⊢
    have z0 : WF.drew.cell? ⟨w.heap.size, 0, none⟩ = _ := kcells_of z 0
    have z1 : WF.drew.cell? ⟨w.heap.size, 1, none⟩ = _ := kcells_of z 1
    have z2 : WF.drew.cell? ⟨w.heap.size, 2, none⟩ = _ := kcells_of z 2
    have z3 : WF.drew.cell? ⟨w.heap.size, 3, none⟩ = _ := kcells_of z 3
    have z4 : WF.drew.cell? ⟨w.heap.size, 4, none⟩ = _ := kcells_of z 4
    have z5 : WF.drew.cell? ⟨w.heap.size, 5, none⟩ = _ := kcells_of z 5
    have z6 : WF.drew.cell? ⟨w.heap.size, 6, none⟩ = _ := kcells_of z 6
    simp only [List.getElem?_toArray, List.getElem?_cons_succ, List.getElem?_cons_zero] at z0 z1 z2 z3 z4 z5 z6
    refine bodyPost_ret (v := .tuple #[.agg #[.string k.name, .string k.super, .slice aJ c.ifaces.length cJ, .bool k.iface, .bool k.abs, .bool (decide (ow ≤ i)), .int .i64 k.at_], .bool true]) (by simp [results, results25, go_sem, z0, z1, z2, z3, z4, z5, z6]) rfl ?_
    have hn := K2.out.nmd
    refine ⟨.inr ⟨i, c, k, .slice aJ c.ifaces.length cJ, HX.out, HCX.out, hn, ?_, by rw [hn.ifc, hn.abs, hn.at_]⟩, hbe.drew⟩
    obtain ⟨ss, s1, s2, s3⟩ := HR.out
    have g1 := hown_ne s3 Q1.out (by decide)
    have g0 := hown_ne s3 Q0.out (by decide)
    have hbut : HBut (w.heap.size + 1) w.heap.size wi WF := by
      rw [hWF]
      exact (((((((((HBut.refl _ _ wi).set _ (.inl rfl)).set _ (.inl rfl)).set _ (.inr rfl)).set _ (.inr rfl)).set _ (.inr rfl)).set _ (.inr rfl)).set _ (.inr rfl)).set _ (.inr rfl)).set _ (.inr rfl)
    have s4 := hown_but s3 hbut g1 g0
    have s5 : Row WF.heap.size 1 WF (.slice aJ c.ifaces.length cJ) ss.length (scells ss) := Row.hof_own s4
    exact ⟨ss, s1, s2, s5⟩
end
end Go.Proofs.YtmaknddlgppinaaGreatDoor
/-! Kc -/
namespace Go.Proofs.YtmaknddlgppinaaGreatDoor
open Go.RowKit

theorem nms_at {cs : List PC} {l : List Nat} {k x : Nat} {d : PC} (hk : l[k]? = some x) (hd : cs[x]? = some d) : (nms cs l)[k]? = some d.name := by simp [nms, hk, hd]
theorem sub_name {cs : List PC} (G : Good cs) {i j : Nat} {c d : PC} (hc : cs[i]? = some c) (hd : cs[j]? = some d) : SubT cs (0, c.name) (0, d.name) ↔ Bel cs i j :=
  sub_cls (ix_of G.apart hc) (ix_of G.apart hd)
theorem sub_up {cs : List PC} (G : Good cs) {j k x : Nat} {c d : PC} {l : List Nat} (hl : Ch cs j l) (hc : cs[j]? = some c) (hd : cs[x]? = some d) (hk : l[k]? = some x) : SubT cs (0, c.name) (0, d.name) := by
  refine (sub_name G hc hd).2 ?_
  rcases hl.mem (List.mem_of_getElem? hk) with h | h
  · exact .inl h.symm
  · exact .inr h
theorem sub_down {cs : List PC} (G : Good cs) {j k x : Nat} {c d : PC} {l : List Nat} (hl : Ch cs j l) (hc : cs[j]? = some c) (hd : cs[x]? = some d) (hk : l[k]? = some x) (h0 : 0 < k) : ¬ SubT cs (0, d.name) (0, c.name) :=
  fun h => not_bel G (hl.tail h0 hk) ((sub_name G hd hc).1 h)
theorem ifc_seen {cs : List PC} (G : Good cs) {j : Nat} {c : PC} {nm : List UInt8} (hc : cs[j]? = some c) (hn : nm ∈ c.ifaces) : ∃ x d, ix cs nm = some x ∧ cs[x]? = some d ∧ d.name = nm ∧ d.iface = true ∧ SubT cs (0, c.name) (0, nm) := by
  have hj : j ≠ 0 := fun e => by
    subst e
    rw [G.obj] at hc
    cases hc
    cases hn
  obtain ⟨_, h2, _, _, _, _, _, h8⟩ := kindE_zero (G.kind j c hc hj)
  obtain ⟨x, hx⟩ := h2 nm hn
  obtain ⟨d, hd, hdn⟩ := ix_some hx
  refine ⟨x, d, hx, hd, hdn, ?_, ?_⟩
  · have := h8 nm hn
    rw [isI_ix hx] at this
    simpa [isJ, hd] using this
  · have h := (sub_name G hc hd).2 (.inr (.one ⟨c, hc, .inr ⟨nm, hn, hx⟩⟩))
    rwa [hdn] at h
theorem chain_some {cs : List PC} (G : Good cs) {j : Nat} {l : List Nat} (hl : Ch cs j l) (hj : j < cs.length) {k : Nat} (hk : k < l.length) : ∃ x d, l[k]? = some x ∧ cs[x]? = some d := by
  have h := List.getElem?_eq_getElem hk
  have hx := hl.lt hj (List.mem_of_getElem? h)
  exact ⟨_, _, h, List.getElem?_eq_getElem hx⟩
/-- What the walk has at hand: a table and the names of its classes. -/
structure Cl (w0 : World) (B tb mb : Nat) (A : Option Addr) (cap ow : Nat) (cs : List PC) (cl sl : Nat → Nat) (S : Nat → List Nat) (Bn : Nat) (vn : Value) (w : World) : Prop where
  ht : HT B tb mb A cap ow cs cl sl S w
  nr : SRow Bn w vn (cs.map (·.name))
  bn : Bn ≤ w.heap.size
  below : Below w0.heap.size w0 w
  ge : w0.heap.size ≤ w.heap.size
theorem Cl.next {w0 : World} {B tb mb : Nat} {A : Option Addr} {cap ow : Nat} {cs : List PC} {cl sl : Nat → Nat} {S : Nat → List Nat} {Bn : Nat} {vn : Value} {w w' : World} (h : Cl w0 B tb mb A cap ow cs cl sl S Bn vn w) (hb : Below w.heap.size w w') : Cl w0 B tb mb A cap ow cs cl sl S Bn vn w' :=
  ⟨h.ht.below (hb.mono h.ht.hB), h.nr.keep (fun p hp => hb.cell (Nat.lt_of_lt_of_le hp h.bn)), Nat.le_trans h.bn hb.size, h.below.trans (hb.mono h.ge), Nat.le_trans h.ge hb.size⟩
/-- And, of one class, its box, its chain, its interfaces. -/
structure Cm (w0 : World) (B tb mb : Nat) (A : Option Addr) (cap ow : Nat) (cs : List PC) (cl sl : Nat → Nat) (S : Nat → List Nat) (Bn : Nat) (vn : Value) (x14 : Nat) (bx : Array Value) (Bl : Nat) (vl : Value) (ls : List (List UInt8)) (Bi : Nat) (vi : Value) (is : List (List UInt8)) (w : World) : Prop where
  cl : Cl w0 B tb mb A cap ow cs cl sl S Bn vn w
  box : w.heap[x14]? = some (.cells bx 47 (0, 0))
  lr : SRow Bl w vl ls
  bl : Bl ≤ w.heap.size
  ir : SRow Bi w vi is
  bi : Bi ≤ w.heap.size
theorem Cm.next {w0 : World} {B tb mb : Nat} {A : Option Addr} {cap ow : Nat} {cs : List PC} {cl sl : Nat → Nat} {S : Nat → List Nat} {Bn : Nat} {vn : Value} {x14 : Nat} {bx : Array Value} {Bl : Nat} {vl : Value} {ls : List (List UInt8)} {Bi : Nat} {vi : Value} {is : List (List UInt8)} {w w' : World}
    (h : Cm w0 B tb mb A cap ow cs cl sl S Bn vn x14 bx Bl vl ls Bi vi is w) (hb : Below w.heap.size w w') : Cm w0 B tb mb A cap ow cs cl sl S Bn vn x14 bx Bl vl ls Bi vi is w' :=
  ⟨h.cl.next hb, (hb.block _ (lt_of_block h.box)).trans h.box, h.lr.keep (fun p hp => hb.cell (Nat.lt_of_lt_of_le hp h.bl)), Nat.le_trans h.bl hb.size, h.ir.keep (fun p hp => hb.cell (Nat.lt_of_lt_of_le hp h.bi)), Nat.le_trans h.bi hb.size⟩
end Go.Proofs.YtmaknddlgppinaaGreatDoor
/-! Plain -/
namespace Go.Proofs.YtmaknddlgppinaaGreatDoor
open Go.Lib (decodeN decode_at)

def at0 (l : List UInt8) (i : Nat) : Nat := (l.getD i 0).toNat
theorem at0_lt (l : List UInt8) (i : Nat) : at0 l i < 256 := UInt8.toNat_lt _
theorem at0_drop (l : List UInt8) (k i : Nat) : at0 (l.drop k) i = at0 l (k + i) := by simp [at0, List.getD, List.getElem?_drop]
/-- The first rune of l, and its width, as a range over a string tells them. -/
def dec (l : List UInt8) : Nat × Nat := decodeN l.length (at0 l 0) (at0 l 1) (at0 l 2) (at0 l 3)
theorem get_getD (s : ByteArray) (i : Nat) : (s.get! i) = s.data.toList.getD i 0 := by
  cases s with
  | mk d =>
    show d[i]! = d.toList.getD i 0
    by_cases h : i < d.size
    · rw [getElem!_pos d i h]; simp [List.getD, h]
    · rw [getElem!_neg d i h]; simp [List.getD, h]; rfl
theorem decode_drop (s : ByteArray) (pos : Nat) : Utf8.decode s pos = dec (s.data.toList.drop pos) := by
  rw [decode_at]
  have hz : s.size - pos = (s.data.toList.drop pos).length := by simp
  simp only [dec, at0_drop, hz]
  simp only [at0, get_getD, Nat.add_zero]
theorem decodeN_width (n b0 b1 b2 b3 : Nat) : 1 ≤ (decodeN n b0 b1 b2 b3).2 ∧ (decodeN n b0 b1 b2 b3).2 ≤ 4 ∧ (1 ≤ n → (decodeN n b0 b1 b2 b3).2 ≤ n) := by
  unfold decodeN
  repeat' split
  all_goals simp only
  all_goals omega
theorem dec_width (l : List UInt8) : 1 ≤ (dec l).2 ∧ (dec l).2 ≤ 4 := ⟨(decodeN_width _ _ _ _ _).1, (decodeN_width _ _ _ _ _).2.1⟩
theorem dec_width_le (l : List UInt8) (h : l ≠ []) : (dec l).2 ≤ l.length := (decodeN_width _ _ _ _ _).2.2 (List.length_pos_iff.2 h)
/-- A scalar value. -/
def Scal (r : Nat) : Prop := r < 55296 ∨ (57344 ≤ r ∧ r ≤ 1114111)
instance (r : Nat) : Decidable (Scal r) := by unfold Scal; infer_instance
theorem decodeN_scal (n b0 b1 b2 b3 : Nat) (h0 : b0 < 256) : Scal (decodeN n b0 b1 b2 b3).1 := by
  unfold decodeN Scal
  repeat' split
  all_goals simp only
  all_goals omega
theorem dec_scal (l : List UInt8) : Scal (dec l).1 := decodeN_scal _ _ _ _ _ (at0_lt _ _)
/-- The bytes of a rune in UTF-8 (numbers). -/
def u8N (r : Nat) : List Nat :=
  if r < 128 then [r] else if r < 2048 then [192 + r / 64, 128 + r % 64]
  else if r < 65536 then [224 + r / 4096, 128 + r / 64 % 64, 128 + r % 64]
  else [240 + r / 262144, 128 + r / 4096 % 64, 128 + r / 64 % 64, 128 + r % 64]
def bs (l : List Nat) : List UInt8 := l.map UInt8.ofNat
def u8 (r : Nat) : List UInt8 := bs (u8N r)
/-- Sixteen bits in modified UTF-8 (numbers). -/
def unN (r : Nat) : List Nat :=
  if 1 ≤ r ∧ r < 128 then [r] else if r < 2048 then [192 + r / 64, 128 + r % 64]
  else [224 + r / 4096, 128 + r / 64 % 64, 128 + r % 64]
def un (r : Nat) : List UInt8 := bs (unN r)
/-- The bytes of a rune in modified UTF-8. -/
def mb (r : Nat) : List UInt8 := if r < 65536 then un r else un (55296 + (r - 65536) / 1024) ++ un (56320 + (r - 65536) % 1024)
theorem bs_length (l : List Nat) : (bs l).length = l.length := by simp [bs]
theorem at0_bs (l : List Nat) (t : List UInt8) (i : Nat) (hi : i < l.length) (hb : ∀ x ∈ l, x < 256) : at0 (bs l ++ t) i = l[i] := by
  have h1 : i < (bs l).length := by simpa [bs] using hi
  have : l[i] < 256 := hb _ (List.getElem_mem hi)
  simp only [at0, List.getD, List.getElem?_append_left h1, List.getElem?_eq_getElem h1, Option.getD_some]
  simp [bs]
  omega
set_option maxHeartbeats 1000000 in
theorem dec_u8 (r : Nat) (t : List UInt8) (h : Scal r) : dec (u8 r ++ t) = (r, (u8 r).length) := by
  unfold Scal at h
  have key : ∀ l : List Nat, u8N r = l → (∀ x ∈ l, x < 256) → dec (u8 r ++ t) = decodeN (l.length + t.length) (at0 (bs l ++ t) 0) (at0 (bs l ++ t) 1) (at0 (bs l ++ t) 2) (at0 (bs l ++ t) 3) ∧ (u8 r).length = l.length := by
    rintro l rfl hb
    unfold dec u8
    simp [bs_length]
  by_cases h1 : r < 128
  · obtain ⟨e, e2⟩ := key [r] (by simp [u8N, h1]) (by simp; omega)
    rw [e, e2, at0_bs _ _ 0 (by simp) (by simp; omega)]
    simp [decodeN, h1]
  by_cases h2 : r < 2048
  · have hb : ∀ x ∈ [192 + r / 64, 128 + r % 64], x < 256 := by simp; omega
    obtain ⟨e, e2⟩ := key [192 + r / 64, 128 + r % 64] (by simp [u8N, h1, h2]) hb
    rw [e, e2, at0_bs _ _ 0 (by simp) hb, at0_bs _ _ 1 (by simp) hb]
    simp only [List.getElem_cons_zero, List.getElem_cons_succ, List.length_cons, List.length_nil]
    unfold decodeN
    repeat' split
    all_goals first | (exfalso; omega) | (apply Prod.ext <;> simp only <;> omega)
  by_cases h3 : r < 65536
  · have hb : ∀ x ∈ [224 + r / 4096, 128 + r / 64 % 64, 128 + r % 64], x < 256 := by simp; omega
    obtain ⟨e, e2⟩ := key [224 + r / 4096, 128 + r / 64 % 64, 128 + r % 64] (by simp [u8N, h1, h2, h3]) hb
    rw [e, e2, at0_bs _ _ 0 (by simp) hb, at0_bs _ _ 1 (by simp) hb, at0_bs _ _ 2 (by simp) hb]
    simp only [List.getElem_cons_zero, List.getElem_cons_succ, List.length_cons, List.length_nil]
    unfold decodeN
    repeat' split
    all_goals first | (exfalso; omega) | (apply Prod.ext <;> simp only <;> omega)
  · have hb : ∀ x ∈ [240 + r / 262144, 128 + r / 4096 % 64, 128 + r / 64 % 64, 128 + r % 64], x < 256 := by simp; omega
    obtain ⟨e, e2⟩ := key [240 + r / 262144, 128 + r / 4096 % 64, 128 + r / 64 % 64, 128 + r % 64] (by simp [u8N, h1, h2, h3]) hb
    rw [e, e2, at0_bs _ _ 0 (by simp) hb, at0_bs _ _ 1 (by simp) hb, at0_bs _ _ 2 (by simp) hb, at0_bs _ _ 3 (by simp) hb]
    simp only [List.getElem_cons_zero, List.getElem_cons_succ, List.length_cons, List.length_nil]
    unfold decodeN
    repeat' split
    all_goals first | (exfalso; omega) | (apply Prod.ext <;> simp only <;> omega)
/-- The bad step. -/
def bad (p : Nat × Nat) : Bool := decide (p = (65533, 1))
theorem split_one (l : List UInt8) (x0 : Nat) (hn : 1 ≤ l.length) (h0 : at0 l 0 = x0) : l = bs [x0] ++ l.drop 1 := by
  match l, hn with
  | a :: t, _ => subst h0; simp [bs, at0]
theorem split_two (l : List UInt8) (x0 x1 : Nat) (hn : 2 ≤ l.length) (h0 : at0 l 0 = x0) (h1 : at0 l 1 = x1) : l = bs [x0, x1] ++ l.drop 2 := by
  match l, hn with
  | a :: b :: t, _ => subst h0 h1; simp [bs, at0]
theorem split_three (l : List UInt8) (x0 x1 x2 : Nat) (hn : 3 ≤ l.length) (h0 : at0 l 0 = x0) (h1 : at0 l 1 = x1) (h2 : at0 l 2 = x2) : l = bs [x0, x1, x2] ++ l.drop 3 := by
  match l, hn with
  | a :: b :: c :: t, _ => subst h0 h1 h2; simp [bs, at0]
theorem split_four (l : List UInt8) (x0 x1 x2 x3 : Nat) (hn : 4 ≤ l.length) (h0 : at0 l 0 = x0) (h1 : at0 l 1 = x1) (h2 : at0 l 2 = x2) (h3 : at0 l 3 = x3) : l = bs [x0, x1, x2, x3] ++ l.drop 4 := by
  match l, hn with
  | a :: b :: c :: d :: t, _ => subst h0 h1 h2 h3; simp [bs, at0]
/-- What decodeN tells: bad, or one of four forms. -/
theorem decodeN_forms (n b0 b1 b2 b3 : Nat) (h0 : b0 < 256) (h1 : b1 < 256) (h2 : b2 < 256) (h3 : b3 < 256) (hn : 1 ≤ n) :
    decodeN n b0 b1 b2 b3 = (65533, 1) ∨
    (∃ r, decodeN n b0 b1 b2 b3 = (r, 1) ∧ r < 128 ∧ b0 = r) ∨
    (∃ r, decodeN n b0 b1 b2 b3 = (r, 2) ∧ 128 ≤ r ∧ r < 2048 ∧ 2 ≤ n ∧ b0 = 192 + r / 64 ∧ b1 = 128 + r % 64) ∨
    (∃ r, decodeN n b0 b1 b2 b3 = (r, 3) ∧ 2048 ≤ r ∧ r < 65536 ∧ 3 ≤ n ∧ b0 = 224 + r / 4096 ∧ b1 = 128 + r / 64 % 64 ∧ b2 = 128 + r % 64) ∨
    (∃ r, decodeN n b0 b1 b2 b3 = (r, 4) ∧ 65536 ≤ r ∧ r ≤ 1114111 ∧ 4 ≤ n ∧ b0 = 240 + r / 262144 ∧ b1 = 128 + r / 4096 % 64 ∧ b2 = 128 + r / 64 % 64 ∧ b3 = 128 + r % 64) := by
  unfold decodeN
  split
  · exact .inr (.inl ⟨b0, rfl, by omega, rfl⟩)
  split
  · split
    · exact .inr (.inr (.inl ⟨_, rfl, by omega, by omega, by omega, by omega, by omega⟩))
    · exact .inl rfl
  split
  · split
    · exact .inr (.inr (.inr (.inl ⟨_, rfl, by omega, by omega, by omega, by omega, by omega, by omega⟩)))
    · exact .inl rfl
  split
  · split
    · exact .inr (.inr (.inr (.inr ⟨_, rfl, by omega, by omega, by omega, by omega, by omega, by omega, by omega⟩)))
    · exact .inl rfl
  · exact .inl rfl
theorem dec_take (l : List UInt8) (hne : l ≠ []) (hb : dec l ≠ (65533, 1)) : l = u8 (dec l).1 ++ l.drop (dec l).2 ∧ (u8 (dec l).1).length = (dec l).2 := by
  have hn : 1 ≤ l.length := List.length_pos_iff.2 hne
  unfold dec at hb ⊢
  rcases decodeN_forms l.length (at0 l 0) (at0 l 1) (at0 l 2) (at0 l 3) (at0_lt _ _) (at0_lt _ _) (at0_lt _ _) (at0_lt _ _) hn with h | ⟨r, h, a, b⟩ | ⟨r, h, a, a', n2, b, c⟩ | ⟨r, h, a, a', n3, b, c, d⟩ | ⟨r, h, a, a', n4, b, c, d, e⟩
  · exact absurd h hb
  · rw [h]
    have e1 : u8 r = bs [r] := by simp [u8, u8N, a]
    simp only [e1]
    exact ⟨split_one l r hn b, by simp [bs]⟩
  · rw [h]
    have e1 : u8 r = bs [192 + r / 64, 128 + r % 64] := by simp [u8, u8N, a', show ¬ r < 128 by omega]
    simp only [e1]
    exact ⟨split_two l _ _ n2 b c, by simp [bs]⟩
  · rw [h]
    have e1 : u8 r = bs [224 + r / 4096, 128 + r / 64 % 64, 128 + r % 64] := by simp [u8, u8N, a', show ¬ r < 128 by omega, show ¬ r < 2048 by omega]
    simp only [e1]
    exact ⟨split_three l _ _ _ n3 b c d, by simp [bs]⟩
  · rw [h]
    have e1 : u8 r = bs [240 + r / 262144, 128 + r / 4096 % 64, 128 + r / 64 % 64, 128 + r % 64] := by simp [u8, u8N, show ¬ r < 65536 by omega, show ¬ r < 128 by omega, show ¬ r < 2048 by omega]
    simp only [e1]
    exact ⟨split_four l _ _ _ _ n4 b c d e, by simp [bs]⟩
def decs : Nat → List UInt8 → List (Nat × Nat)
  | 0, _ => []
  | f + 1, l => if l = [] then [] else dec l :: decs f (l.drop (dec l).2)
def steps (l : List UInt8) : List (Nat × Nat) := decs l.length l
theorem decs_fuel : ∀ (f g : Nat) (l : List UInt8), l.length ≤ f → l.length ≤ g → decs f l = decs g l
  | 0, 0, _, _, _ => rfl
  | 0, g + 1, l, h, _ => by
    have : l = [] := List.eq_nil_of_length_eq_zero (by omega)
    simp [decs, this]
  | f + 1, 0, l, _, h => by
    have : l = [] := List.eq_nil_of_length_eq_zero (by omega)
    simp [decs, this]
  | f + 1, g + 1, l, h1, h2 => by
    unfold decs
    by_cases hne : l = []
    · simp [hne]
    · have := (dec_width l).1
      have hp := List.length_pos_iff.2 hne
      rw [if_neg hne, if_neg hne, decs_fuel f g (l.drop (dec l).2) (by rw [List.length_drop]; omega) (by rw [List.length_drop]; omega)]
theorem steps_cons (l : List UInt8) (h : l ≠ []) : steps l = dec l :: steps (l.drop (dec l).2) := by
  have hp := List.length_pos_iff.2 h
  have := (dec_width l).1
  obtain ⟨n, hn⟩ : ∃ n, l.length = n + 1 := ⟨l.length - 1, by omega⟩
  unfold steps
  rw [hn]
  show (if l = [] then [] else _) = _
  rw [if_neg h, decs_fuel n (l.drop (dec l).2).length _ (by rw [List.length_drop]; omega) (Nat.le_refl _)]
theorem steps_length (l : List UInt8) : (steps l).length ≤ l.length := by
  have : ∀ (f : Nat) (l : List UInt8), (decs f l).length ≤ f := by
    intro f
    induction f with
    | zero => intro l; simp [decs]
    | succ f ih =>
      intro l
      unfold decs
      split
      · simp
      · simp; exact ih _
  exact this _ _
/-- Induction along the steps. -/
theorem steps_ind {p : List UInt8 → Prop} (hn : p []) (hc : ∀ l, l ≠ [] → p (l.drop (dec l).2) → p l) (l : List UInt8) : p l := by
  have : ∀ (n : Nat) (l : List UInt8), l.length ≤ n → p l := by
    intro n
    induction n with
    | zero => intro l h; rw [List.eq_nil_of_length_eq_zero (Nat.le_zero.1 h)]; exact hn
    | succ n ih =>
      intro l h
      by_cases hne : l = []
      · rw [hne]; exact hn
      · have := (dec_width l).1
        have hp := List.length_pos_iff.2 hne
        exact hc l hne (ih _ (by rw [List.length_drop]; omega))
  exact this _ l (Nat.le_refl _)
def validL (l : List UInt8) : Bool := (steps l).all fun p => !bad p
def runes (l : List UInt8) : List Nat := (steps l).map Prod.fst
theorem runes_nil : runes [] = [] := rfl
theorem validL_cons (l : List UInt8) (h : l ≠ []) : validL l = (!bad (dec l) && validL (l.drop (dec l).2)) := by
  simp [validL, steps_cons l h]
theorem runes_cons (l : List UInt8) (h : l ≠ []) : runes l = (dec l).1 :: runes (l.drop (dec l).2) := by
  simp [runes, steps_cons l h]
theorem runes_length_le (l : List UInt8) : (runes l).length ≤ l.length := by simpa [runes] using steps_length l
/-- A text is the UTF-8 of its runes. -/
theorem valid_u8 (l : List UInt8) : validL l = true → (runes l).flatMap u8 = l := by
  refine steps_ind (p := fun l => validL l = true → (runes l).flatMap u8 = l) (by intro _; rfl) ?_ l
  intro l hne ih hv
  rw [validL_cons l hne] at hv
  simp only [Bool.and_eq_true, Bool.not_eq_true', bad, decide_eq_false_iff_not] at hv
  rw [runes_cons l hne, List.flatMap_cons, ih hv.2]
  exact (dec_take l hne hv.1).1.symm
theorem bad_u8 (r : Nat) (t : List UInt8) (h : Scal r) : bad (dec (u8 r ++ t)) = false := by
  rw [dec_u8 r t h]
  simp only [bad, decide_eq_false_iff_not, Prod.mk.injEq, not_and]
  rintro rfl
  decide
theorem un_length (r : Nat) : 1 ≤ (un r).length ∧ (un r).length ≤ 3 := by
  unfold un unN bs
  repeat' split
  all_goals simp
theorem mb_length (r : Nat) : 1 ≤ (mb r).length ∧ (mb r).length ≤ 6 := by
  unfold mb
  split
  · have := un_length r; omega
  · have := un_length (55296 + (r - 65536) / 1024); have := un_length (56320 + (r - 65536) % 1024); simp; omega
def encL (l : List UInt8) : List UInt8 := (runes l).flatMap mb
end Go.Proofs.YtmaknddlgppinaaGreatDoor
/-! W1 -/
namespace Go.Proofs.YtmaknddlgppinaaGreatDoor
open Go.RowKit

theorem ret_int {k : IntKind} {a b : Int} (h : a = b) : Ending.returned (.int k a) = .returned (.int k b) := by rw [h]
theorem ret_bool {a b : Bool} (h : a = b) : Ending.returned (.bool a) = .returned (.bool b) := by rw [h]
def nameB (r : Int) : Bool := decide (32 < r ∧ r ≠ 127 ∧ r ≠ 59 ∧ r ≠ 91 ∧ r ≠ 40 ∧ r ≠ 41 ∧ r ≠ 46)
set_option maxHeartbeats 400000 in
theorem nameRune_any (r : Int) (w : World) :
    Calls Tryz.prog 138 #[.int .i32 r] w fun e w' => e = .returned (.bool (nameB r)) ∧ w = w' := by
  go_enter Tryz.func138, Tryz.ntmps138
  go_wp2
  all_goals (go_ret; refine ⟨ret_bool ?_, rfl⟩; rw [Bool.eq_iff_iff]; simp_all [nameB])
def rlen (r : Int) : Int := if 1 ≤ r ∧ r ≤ 127 then 1 else if r ≤ 2047 then 2 else if r < 65536 then 3 else 6
theorem rlen_1 {r : Int} (h : 1 ≤ r ∧ r ≤ 127) : rlen r = 1 := by unfold rlen; rw [if_pos h]
theorem rlen_2 {r : Int} (h : ¬ (1 ≤ r ∧ r ≤ 127)) (h2 : r ≤ 2047) : rlen r = 2 := by unfold rlen; rw [if_neg h, if_pos h2]
theorem rlen_3 {r : Int} (h : 2047 < r) (h2 : r < 65536) : rlen r = 3 := by unfold rlen; rw [if_neg (by omega), if_neg (by omega), if_pos h2]
theorem rlen_6 {r : Int} (h : 65536 ≤ r) : rlen r = 6 := by unfold rlen; rw [if_neg (by omega), if_neg (by omega), if_neg (by omega)]
set_option maxHeartbeats 400000 in
theorem runeLen_any (r : Int) (w : World) :
    Calls Tryz.prog 200 #[.int .i32 r] w fun e w' => e = .returned (.int .i64 (rlen r)) ∧ w = w' := by
  go_enter Tryz.func200, Tryz.ntmps200
  go_wp2
  all_goals (go_ret; refine ⟨ret_int ?_, rfl⟩; first | exact (rlen_1 (by omega)).symm | exact (rlen_2 (by omega) (by omega)).symm | exact (rlen_3 (by omega) (by omega)).symm | exact (rlen_6 (by omega)).symm)
theorem at0_get (s : ByteArray) (i : Nat) (h : i < s.size) : (s[i]'h).toNat = at0 s.data.toList i := by
  unfold at0
  congr 1
  have h' : i < s.data.toList.length := by simpa using h
  simp only [List.getD, List.getElem?_eq_getElem h', Option.getD_some]
  rfl
def goodB (l : List UInt8) : Bool := decide (3 ≤ l.length) && (l.take 3 == [239, 191, 189])
set_option maxHeartbeats 400000 in
theorem startsGoodBad_any (s : ByteArray) (w : World) :
    Calls Tryz.prog 170 #[.string s] w fun e w' => e = .returned (.bool (goodB s.data.toList)) ∧ w = w' := by
  have e1 := Lib.extract_toList s 0 3
  have e2 := Lib.size_eq s
  have E : Hid _ := e1
  have E2 := Lib.hid e2
  clear e1 e2
  go_enter Tryz.func170, Tryz.ntmps170
  go_wp2
  · go_ret
    refine ⟨ret_bool ?_, rfl⟩
    rw [E.out]
    have := E2.out
    simp only [goodB, List.drop_zero]
    rw [decide_eq_true (by omega), Bool.true_and]
  · go_ret
    refine ⟨ret_bool ?_, rfl⟩
    have := E2.out
    simp only [goodB]
    rw [decide_eq_false (by omega), Bool.false_and]
theorem ofInt_i32 (a : Nat) (ha : a < 2147483648) : (BitVec.ofInt 32 (a : Int)).toNat = a := by
  rw [BitVec.ofInt_natCast, BitVec.toNat_ofNat]; exact Nat.mod_eq_of_lt (by omega)
end Go.Proofs.YtmaknddlgppinaaGreatDoor
