/-
  CUT and joined from the texts of this seat: Hd Hv He Hs
-/
import Derived.Test.YtmaknddlgppinaaGreatDoorZ08
import Derived.Test.YtmaknddlgppinaaGreatDoorZ05
import Derived.Shelf.Strconv.Clone
import Derived.Shelf.SlMaps.Copy
import Derived.Shelf.SlicesE.Clone
import Derived.Deep.RegionHeld3
import Derived.StillTailTactics
set_option linter.unusedVariables false
set_option linter.unusedSimpArgs false
namespace Go.Proofs.YtmaknddlgppinaaGreatDoor
open Go.RowKit
theorem info108 : ∃ i, Tryz.prog.info? 108 = some i ∧ i.zero = some (.pointer none) ∧ i.size = 1 ∧ i.bytes = 8 := info_parts (by kernel_rfl)
theorem und109 : Tryz.prog.underlying 109 = some (.slice 108) := by kernel_rfl
theorem knew_at (w : World) (cs : List Value) (t : TypeId) (g : Nat) (h : g = w.heap.size) : ∀ j u, cs[j]? = some u → (w.alloc (.cells cs.toArray t)).cell? (({ block := g, off := 0 } : Addr).add j) = some u := by
 subst h
 exact hnew_cells w cs t
theorem grown_block {W2 W3 : World} {v : Value} {k : Nat} {x : Obj} (hg : W2.grownBy W3 v.ownBlock) (h : W2.heap[k]? = some x) (hne : v.ownBlock ≠ some k) : W3.heap[k]? = some x :=
 (hg.block k (lt_of_block h) (fun e => hne e.symm)).trans h
theorem alloc_drew {W : World} {o : Obj} {k : Nat} {x : Obj} (h : W.heap[k]? = some x) : (W.alloc o).drew.heap[k]? = some x := hheap_alloc_lt h
theorem KAt.place {c : Nat} {k : KC} {w : World} (h : KAt c k w) (n : Nat) : KAt c (k.at n) (w.setCell ⟨c, 7, none⟩ (.int .i64 (n : Int))) := by
 unfold KAt
 rw [heap_set_eq h]
 simp [KC.cells, KC.at]
theorem TMap.obj {mb : Nat} {cs : List PC} {cl : Nat → Nat} {w : World} (h : TMap mb cs cl w) : ∃ es n, w.heap[mb]? = some (.map es n) := by
 obtain ⟨m, D, _, ⟨es, clock, hb, _⟩, _⟩ := h
 exact ⟨es, clock, hb⟩
theorem hown_ne_map {w : World} {base : Nat} {e : TypeId} {size : Nat} {v : Value} {n : Nat} {xs : List Value} (h : w.ownsRow base e size v n xs) {q : Nat} {es : Array MapEntry} {m : Nat} (hq : w.heap[q]? = some (.map es m)) : v.ownBlock ≠ some q := by
 rcases h.2 with ⟨rfl, _⟩ | ⟨g, cap, cur, rfl, _, hgg, _⟩
 ·simp [Value.ownBlock]
 ·intro e1
  simp [Value.ownBlock] at e1
  subst e1
  rw [hgg] at hq
  cases hq
set_option maxRecDepth 1000000 in
set_option maxHeartbeats 6400000 in
theorem add_any {base nb mb o : Nat} {cs : List PC} {cl : Nat → Nat} {w : World} (h : AT base nb mb o cs cl w) {cb : Nat} {k : KC} (hk : KAt cb k w) (hcb : base ≤ cb) (hne : cb ≠ nb) (c : PC) (hn : k.name.data.toList = c.name) (hsz : k.name.size ≤ 1000000) (hfew : cs.length < 1000) :
  Calls Tryz.prog 100 #[.pointer (some ⟨nb, 0, none⟩), .pointer (some ⟨cb, 0, none⟩)] w fun e w' =>
   (ix cs c.name ≠ none ∧ e = .returned (.bool false) ∧ ∃ n, w' = w.drewN n) ∨
   (ix cs c.name = none ∧ e = .returned (.bool true) ∧ AT base nb mb o (cs ++ [c]) (put2 cl cs.length cb) w' ∧ KAt cb (k.at cs.length) w' ∧ Ex 108 nb cb w w' ∧ Below base w w') := by
 obtain ⟨v, t0, town⟩ := h.t0
 have c1 : w.cell? ⟨nb, 1, none⟩ = some (.map (some mb)) := by rw [kcells_of t0]; rfl
 have c0 : w.cell? ⟨nb, 0, none⟩ = some v := by rw [kcells_of t0]; rfl
 have k0 : w.cell? ⟨cb, 0, none⟩ = some (.string k.name) := hk.cell 0
 have k7 : w.cell? ⟨cb, 7, none⟩ = some (.int .i64 (k.place : Int)) := hk.cell 7
 have f7 : w.frozen? ⟨cb, 7, none⟩ = false := kfree_of hk 7
 have f0 : w.frozen? ⟨nb, 0, none⟩ = false := kfree_of t0 0
 have hs1 : k.name.size ≤ maxLen := by unfold maxLen; omega
 have hl := (h.map.same (w' := w.drew) rfl).look k.name hs1
 have H := Lib.hid h
 have HK := Lib.hid hk
 have HT0 := Lib.hid t0
 have HOWN := Lib.hid town
 rw [hn] at hl
 cases hix : ix cs c.name with
 | some j =>
  rw [hix] at hl
  have hl2 : (Instr.lookup 110 (.map (some mb)) (.string k.name) false).run Tryz.prog w.drew = .ok (.pointer (some ⟨cl j, 0, none⟩)) w.drew := hl
  clear hl hix h hk t0 town
  go_enter Tryz.func100, Tryz.ntmps100
  go_wp2
  go_region
  go_wp2
  go_ret
  exact .inl ⟨by simp, rfl, 1, rfl⟩
 | none =>
  have HIX := Lib.hid hix
  rw [hix] at hl
  have hl2 : (Instr.lookup 110 (.map (some mb)) (.string k.name) false).run Tryz.prog w.drew = .ok (.pointer none) w.drew := hl
  obtain ⟨a, cp, rfl⟩ := hown_form town
  have O1 := Lib.hid (show (w.drew.setCell ⟨cb, 7, none⟩ (.int .i64 (cs.length : Int))).ownsRow base 108 1 (.slice a cs.length cp) cs.length (ptrs cl cs.length) from hown_but (w := w.drew) town ((HBut.refl cb cb w.drew).set cb (.inl rfl)) (hown_ne town hk (by decide)) (hown_ne town hk (by decide)))
  have T1 := Lib.hid (show (w.setCell ⟨cb, 7, none⟩ (.int .i64 (cs.length : Int))).heap[nb]? = _ from hheap_set_ne (a := ⟨cb, 7, none⟩) hne.symm t0)
  have K1 := Lib.hid (show (w.setCell ⟨cb, 7, none⟩ (.int .i64 (cs.length : Int))).heap[cb]? = _ from hk.place cs.length)
  have N1 := Lib.hid (hown_ne town t0 (by decide))
  have N2 := Lib.hid (hown_ne town hk (by decide))
  obtain ⟨i0, hi0, hz0, hz1, hz2⟩ := info108
  clear hl hix h hk t0 town
  go_enter Tryz.func100, Tryz.ntmps100
  go_wp2
  go_region
  have hb := H.out.blt
  go_wp2_with (at_builtin; refine hwpList_append_own2 rfl (.tmp 28) (.tmp 30) 109 rfl base 108 i0 (.pointer none) 1 8 und109 hi0 hz0 hz1 hz2 rfl (by decide) (.slice a cs.length cp) cs.length _ rfl (World.ownsRow.alloc O1.out _) ⟨_, 0, none⟩ 1 1 [.pointer (some ⟨cb, 0, none⟩)] rfl rfl (knew_at _ [.pointer (some ⟨cb, 0, none⟩)] 108 _ (by simp)) (fun u hu => by simp at hu; subst hu; rfl) (by unfold maxLen; omega) (by omega) (by simp; omega) ?_; intro v3 w3 own3 hg3 hm3; obtain ⟨a3, c3, rfl⟩ := hown_form own3; have OW3 := Lib.hid own3; have HG3 := Lib.hid hg3; clear own3; have T3 := grown_block hg3 (alloc_drew T1.out) N1.out; have K3 := grown_block hg3 (alloc_drew K1.out) N2.out; have c03 := kcells_of T3 0; have f03 := kfree_of T3 0; rw [show (#[Value.slice a cs.length cp, Value.map (some mb), Value.int .i64 (o : Int)] : Array Value)[0]? = some (Value.slice a cs.length cp) from rfl] at c03; have TT3 := Lib.hid T3; have KK3 := Lib.hid K3; clear T3 K3 hg3 hm3)
  obtain ⟨es, nm, hmo⟩ := H.out.map.obj
  have mcb : mb ≠ cb := fun e => by have := HK.out; unfold KAt at this; rw [← e, hmo] at this; cases this
  have mnb : mb ≠ nb := fun e => by have := HT0.out; rw [← e, hmo] at this; cases this
  have mow := hown_ne_map HOWN.out hmo
  have hm3 : w3.heap[mb]? = w.heap[mb]? := (HG3.out.block mb (by have := lt_of_block hmo; simp; omega) (fun e => mow e.symm)).trans ((Below.heap_alloc _ _ _ (by have := lt_of_block hmo; simpa using this)).trans (Below.heap_setCell _ _ _ _ mcb))
  have M4 : TMap mb cs (put2 cl cs.length cb) (w3.setCell ⟨nb, 0, none⟩ (.slice a3 (cs.length + 1) c3)).drew := (H.out.map.as (fun i hi => ix_put hi)).same ((Below.heap_setCell _ _ _ _ mnb).trans hm3)
  have MM4 := Lib.hid M4.obj
  obtain ⟨w5, hup, M5, hg5⟩ := M4.put c hs1 hn.symm HIX.out (by omega)
  rw [put2_self] at hup
  have T4 := heap_set_eq (i := 0) (u := .slice a3 (cs.length + 1) c3) TT3.out
  have K4 := hheap_set_ne (a := ⟨nb, 0, none⟩) (u := .slice a3 (cs.length + 1) c3) hne KK3.out
  have c14 := kcells_of T4 1
  have k04 := kcells_of K4 0
  rw [show ((#[Value.slice a cs.length cp, Value.map (some mb), Value.int .i64 (o : Int)] : Array Value).setIfInBounds 0 (.slice a3 (cs.length + 1) c3))[1]? = some (Value.map (some mb)) from rfl] at c14
  rw [show (k.at cs.length).cells.toArray[0]? = some (Value.string k.name) from rfl] at k04
  have M5' := Lib.hid M5
  have HG5 := Lib.hid hg5
  have T4' := Lib.hid T4
  have K4' := Lib.hid K4
  clear M4 M5 hg5 T4 K4 mow hm3
  go_region
  go_wp2
  go_ret
  have hsz3 := HG3.out.size
  have hsz5 := HG5.out.size
  simp at hsz3 hsz5
  have O3 := OW3.out
  have OW4 := hown_but (w := w3) O3 ((HBut.refl nb nb w3).set (i := 0) (u := .slice a3 (cs.length + 1) c3) nb (.inl rfl)) (hown_ne O3 TT3.out (by decide)) (hown_ne O3 TT3.out (by decide))
  have hmb4 : ∃ es n, (w3.setCell ⟨nb, 0, none⟩ (.slice a3 (cs.length + 1) c3)).heap[mb]? = some (.map es n) := MM4.out
  have e5 : ∀ {q : Nat} {ys : Array Value} {t : TypeId} {z : Nat × Nat}, (w3.setCell ⟨nb, 0, none⟩ (.slice a3 (cs.length + 1) c3)).heap[q]? = some (.cells ys t z) → w5.heap[q]? = some (.cells ys t z) := fun {q ys t z} hq =>
   (HG5.out.block q (lt_of_block hq) (fun e => by injection e with e; subst e; obtain ⟨_, _, h⟩ := hmb4; rw [h] at hq; cases hq)).trans hq
  have hB : Below base w w5 := by
   refine Below.grown (Below.drew (Below.setCell (Below.grown ((Below.setCell (Below.refl base w) hcb (.int .i64 (cs.length : Int))).alloc (by simp; omega) _).drew HG3.out (by simp; omega) (fun q hq => hown_block_ge HOWN.out q hq)) H.out.nge _)) HG5.out (by simp; omega) (fun q hq => by injection hq with hq; subst hq; exact H.out.mge)
  refine .inr ⟨trivial, rfl, ⟨by simp; omega, by omega, H.out.nge, H.out.mge, M5'.out, .slice a3 (cs.length + 1) c3, e5 T4'.out, ?_⟩, e5 K4'.out, ⟨hB.os, hB.tape, hB.output, hB.size, fun q ys t z ht h1 h2 hq => ?_⟩, hB⟩
  ·rw [List.length_append, List.length_singleton, ptrs_put]
   obtain ⟨q1, q2⟩ := OW4
   refine ⟨q1, ?_⟩
   rcases q2 with q2 | ⟨g, cap, cur, hv, hg, hgg, r⟩
   ·exact .inl q2
   ·exact .inr ⟨g, cap, cur, hv, hg, e5 hgg, r⟩
  ·refine e5 (hheap_set_ne (a := ⟨nb, 0, none⟩) h1 (grown_block HG3.out (alloc_drew (hheap_set_ne (a := ⟨cb, 7, none⟩) h2 hq)) (hown_ne HOWN.out hq ht)))
end Go.Proofs.YtmaknddlgppinaaGreatDoor
namespace Go.Proofs.YtmaknddlgppinaaGreatDoor
open Go.RowKit Go.Shelf
def clone_ren : Ren := ⟨fun | 316 => 169 | n => n, fun | 37 => 166 | 127 => 215 | n => n, fun | n => n⟩
theorem clone_lays : LaysM.n316 Tryz.prog clone_ren := {
 mixed := by kernel_rfl
 f316 := Tryz.func169.trans (congrArg some (by kernel_rfl))
 t0 := Tryz.underlying0
 a0 := Tryz.isAgg0
 z0 := Tryz.sizeOf0
 v0 := Tryz.zeroValue0
 t3 := Tryz.underlying3
 a3 := Tryz.isAgg3
 z3 := Tryz.sizeOf3
 v3 := Tryz.zeroValue3
 t4 := Tryz.underlying4
 a4 := Tryz.isAgg4
 z4 := Tryz.sizeOf4
 v4 := Tryz.zeroValue4
 t5 := Tryz.underlying5
 a5 := Tryz.isAgg5
 z5 := Tryz.sizeOf5
 v5 := Tryz.zeroValue5
 t9 := Tryz.underlying9
 a9 := Tryz.isAgg9
 z9 := Tryz.sizeOf9
 v9 := Tryz.zeroValue9
 t37 := Tryz.underlying166
 a37 := Tryz.isAgg166
 z37 := Tryz.sizeOf166
 v37 := Tryz.zeroValue166
 t127 := Tryz.underlying215
 a127 := Tryz.isAgg215
 z127 := Tryz.sizeOf215
 v127 := Tryz.zeroValue215
 i0 := by kernel_rfl
 i3 := by kernel_rfl
 i4 := by kernel_rfl
 i5 := by kernel_rfl
 i9 := by kernel_rfl
 i37 := by kernel_rfl
 i127 := by kernel_rfl }
theorem strClone_any (s : ByteArray) (w : World) (hs : s.size ≤ 281474976710656) : Calls Tryz.prog 169 #[.string s] w fun e w' => e = .returned (.string s) ∧ Below w.heap.size w w' := Any.stringslite_Clone clone_lays s w hs
set_option maxRecDepth 1000000 in
theorem stringsClone_any (s : ByteArray) (w : World) (hs : s.size ≤ 281474976710656) : Calls Tryz.prog 137 #[.string s] w fun e w' => e = .returned (.string s) ∧ Below w.heap.size w w' := by
 go_enter Tryz.func137, Tryz.ntmps137
 go_wp2_with fail
 refine (strClone_any s w hs).mono ?_
 rintro e w' ⟨rfl, hb⟩
 go_wp2
 go_ret
 exact ⟨rfl, hb⟩
def copy_ren : Ren := ⟨fun | 5 => 104 | n => n, fun | 23 => 110 | 24 => 110 | 26 => 9 | 27 => 108 | n => n, fun | n => n⟩
theorem copy_lays : SlLaysX.n5 Tryz.prog copy_ren := {
 mixed := by kernel_rfl
 f5 := ⟨Tryz.f104.name, by kernel_rfl, Tryz.func104.trans (congrArg some (by kernel_rfl))⟩
 t0 := Tryz.underlying0
 a0 := Tryz.isAgg0
 z0 := Tryz.sizeOf0
 v0 := Tryz.zeroValue0
 t4 := Tryz.underlying4
 a4 := Tryz.isAgg4
 z4 := Tryz.sizeOf4
 v4 := Tryz.zeroValue4
 t23 := Tryz.underlying110
 a23 := Tryz.isAgg110
 z23 := Tryz.sizeOf110
 v23 := Tryz.zeroValue110
 t24 := Tryz.underlying110
 a24 := Tryz.isAgg110
 z24 := Tryz.sizeOf110
 v24 := Tryz.zeroValue110
 a26 := Tryz.isAgg9
 z26 := Tryz.sizeOf9
 a27 := Tryz.isAgg108
 z27 := Tryz.sizeOf108 }
def sl_ren (f t e : Nat) : Ren := ⟨fun | 41 => f | n => n, fun | 22 => t | 23 => e | n => n, fun | n => n⟩
theorem clonePtr_lays : SlLaysE0.n41 Tryz.prog (sl_ren 103 109 108) := {
 mixed := by kernel_rfl
 f41 := ⟨Tryz.f103.name, by kernel_rfl, Tryz.func103.trans (congrArg some (by kernel_rfl))⟩
 t4 := Tryz.underlying4
 a4 := Tryz.isAgg4
 z4 := Tryz.sizeOf4
 v4 := Tryz.zeroValue4
 t22 := Tryz.underlying109
 a22 := Tryz.isAgg109
 z22 := Tryz.sizeOf109
 v22 := Tryz.zeroValue109 }
theorem shut_ptrs (cl : Nat → Nat) (n : Nat) : ∀ u ∈ ptrs cl n, u.oneCell' = true := by
 intro u hu
 unfold ptrs at hu
 obtain ⟨x, _, rfl⟩ := List.mem_map.1 hu
 rfl
/-- slices.Clone of a row of pointers to classes. -/
theorem clonePtr_any {B n : Nat} {v : Value} {cl : Nat → Nat} {w : World} (hr : Row B 1 w v n (ptrs cl n)) (h0 : n = 0 → v = .slice none 0 0) (hn : n ≤ 1000) :
  Calls Tryz.prog 103 #[v] w fun e w' => ∃ v', e = .returned v' ∧ w'.ownsRow w.heap.size 108 1 v' n (ptrs cl n) ∧ Below w.heap.size w w' := by
 by_cases hz : n = 0
 ·rw [h0 hz]
  refine (AnyE.slices_Clone_nil clonePtr_lays 0 0 w).mono ?_
  rintro e w' ⟨rfl, rfl⟩
  subst hz
  exact ⟨_, rfl, World.ownsRow_nil _ _ _ _, Below.refl _ _⟩
 ·obtain ⟨A, cap, rfl, _, hm, hl, hc⟩ := hr
  obtain ⟨b, o, rfl, hb, hcell⟩ := hc (by omega)
  obtain ⟨i0, hi0, hz0, hz1, hz2⟩ := info108
  refine (AnyE.slices_Clone clonePtr_lays i0 (.pointer none) 1 8 hi0 hz0 hz1 hz2 rfl (by decide) Tryz.sizeOf108 b o n cap (ptrs cl n) w (by simpa using hl) hm (by omega) hcell (shut_ptrs cl n)).mono ?_
  rintro e w' ⟨v', rfl, h1, _, h3⟩
  exact ⟨v', rfl, h1, h3⟩
/-- All of a map laid into an empty one. -/
theorem merge_at {D : DataW Value} (hD : ∃ es, D = .map es ∧ es.Pairwise (fun p q => p.1.before q.1 = true) ∧ ∀ p ∈ es, WideAt.IsKeyLit p.1) (k : Lit) (z : DataW Value) : (Lib.mergeD (.map []) D).atKey k z = D.atKey k z := by
 obtain ⟨es, rfl, hr, hk⟩ := hD
 show (es.foldl (fun (D : DataW Value) p => D.put p.1 p.2) (DataW.map [])).atKey k z = _
 rw [Maps.atKey_foldPut k z es (.map []) ⟨_, rfl⟩ hk (Maps.apart_of_rising hr)]
 cases hf : es.find? (fun p => p.1.sameKey k) <;> simp [DataW.atKey, hf]
/-- maps.Copy into an empty map. -/
theorem copy_any {mb nb : Nat} {cs : List PC} {cl : Nat → Nat} {w : World} (h : TMap mb cs cl w) (hn : w.ownsMap Tryz.prog 9 PR nb 0 (.map [])) (hne : nb ≠ mb) (hl : cs.length ≤ 1000) :
  Calls Tryz.prog 104 #[.map (some nb), .map (some mb)] w fun e w' => e = .returned (.tuple #[]) ∧ TMap nb cs cl w' ∧ w.grownBy w' (some nb) := by
 obtain ⟨m, D, hm, ho, hat⟩ := h
 have hs := ho.size_le
 have hc := ho.canonK (Maps.string_keyed und9)
 refine (AnyX.maps_Copy copy_lays (Maps.string_keyed und9) PR nb mb 0 m (.map []) D w hn ho hne (by unfold maxLen; omega)).mono ?_
 rintro e w' ⟨rfl, h1, _, h3⟩
 refine ⟨rfl, ⟨0 + Maps.size D, _, by omega, h1, fun nm => ?_⟩, h3⟩
 rw [merge_at, hat]
 obtain ⟨es, e1, e2, e3⟩ := hc
 exact ⟨es, e1, e2, fun p hp => (Maps.string_keyed und9).one.key (e3 p hp)⟩
theorem copy_nil {nb : Nat} {w : World} : Calls Tryz.prog 104 #[.map (some nb), .map none] w fun e w' => e = .returned (.tuple #[]) ∧ w' = w.alloc (.mapIter none 0 #[] 0) := AnyX.maps_Copy_nil copy_lays (some nb) w
end Go.Proofs.YtmaknddlgppinaaGreatDoor
namespace Go.Proofs.YtmaknddlgppinaaGreatDoor
open Go.RowKit
theorem made_map (w : World) : (Instr.makeMap 110 none).run Tryz.prog w = .ok (.map (some w.heap.size)) (w.alloc (.map #[] 0)) := by
 have h : Tryz.prog.underlying 110 = some (.map 9 108) := by kernel_rfl
 simp [Instr.makeMap, run_underlying h]
theorem hheap_at (w : World) (o : Obj) (b : Nat) (h : b = w.heap.size) : (w.alloc o).heap[b]? = some o := by
 subst h
 exact hheap_new w o
theorem ownsMap_obj {w : World} {b m : Nat} {D : DataW Value} (h : w.ownsMap Tryz.prog 9 PR b m D) : ∃ es n, w.heap[b]? = some (.map es n) := by
 obtain ⟨es, clock, hb, _⟩ := h
 exact ⟨es, clock, hb⟩
theorem own_grown_map {w w' : World} {base mb : Nat} {e : TypeId} {size : Nat} {v : Value} {n : Nat} {xs : List Value} (h : w.ownsRow base e size v n xs) (hm : ∃ es n, w.heap[mb]? = some (.map es n)) (hg : w.grownBy w' (some mb)) : w'.ownsRow base e size v n xs := by
 obtain ⟨es, k, hm⟩ := hm
 have := hown_ne_map h hm
 exact h.kept hg (by
  cases hv : v.ownBlock with
  | none => exact .inl rfl
  | some g => rw [hv] at this; exact .inr this)
theorem ownsMap_below {w w' : World} {b m B : Nat} {D : DataW Value} (h : w.ownsMap Tryz.prog 9 PR b m D) (hb : Below B w w') (hlt : b < B) : w'.ownsMap Tryz.prog 9 PR b m D := by
 obtain ⟨es, clock, h1, h2⟩ := h
 exact ⟨es, clock, (hb.block b hlt).trans h1, h2⟩
theorem qlt_alloc {W : World} {q : Nat} (h : q < W.heap.size) (o : Obj) : q < (W.alloc o).heap.size := by simp; omega
theorem qkeepc {W w' : World} {q i : Nat} {v : Value} (hb : Below W.heap.size W w') (hq : q < W.heap.size) (h : W.cell? ⟨q, i, none⟩ = some v) : w'.cell? ⟨q, i, none⟩ = some v :=
 (hb.cell (p := ⟨q, i, none⟩) hq).trans h
set_option maxRecDepth 1000000 in
set_option maxHeartbeats 6400000 in
theorem extended_walk {tb : Nat} {v : Value} {pm : Option Nat} {n : Nat} {o : Int} {cs : List PC} {cl : Nat → Nat} {w : World} (t0 : w.heap[tb]? = some (.cells #[v, .map pm, .int .i64 o] 112 (0, 0)))
    (hs : ∃ A c, v = .slice A n c)
    (hn : n = cs.length) (hfew : cs.length ≤ 1000)
    (keyc : ∀ W nb, W.ownsMap Tryz.prog 9 PR nb 0 (.map []) → w.heap.size ≤ nb → Below w.heap.size w W → Calls Tryz.prog 104 #[.map (some nb), .map pm] W fun e w' => e = .returned (.tuple #[]) ∧ TMap nb cs cl w' ∧ W.grownBy w' (some nb))
    (key : ∀ W, Below w.heap.size w W → Calls Tryz.prog 103 #[v] W fun e w' => ∃ v', e = .returned v' ∧ w'.ownsRow W.heap.size 108 1 v' n (ptrs cl n) ∧ Below W.heap.size W w') :
    Calls Tryz.prog 78 #[.pointer (some ⟨tb, 0, none⟩)] w fun e w' => ∃ nb mb, e = .returned (.pointer (some ⟨nb, 0, none⟩)) ∧ AT w.heap.size nb mb n cs cl w' ∧ Below w.heap.size w w' := by
  obtain ⟨A, c, rfl⟩ := hs
  have KEY := Lib.hid key
  have KEYC := Lib.hid keyc
  have HN := Lib.hid hn
  have c0 : w.cell? ⟨tb, 0, none⟩ = some (.slice A n c) := by rw [kcells_of t0]; rfl
  have c1 : w.cell? ⟨tb, 1, none⟩ = some (.map pm) := by rw [kcells_of t0]; rfl
  have hlt := lt_of_block t0
  have hmk := made_map
  have HT := Lib.hid t0
  clear key keyc t0 hn
  go_enter Tryz.func78, Tryz.ntmps78
  go_wp2
  go_region_held3 (fun w' => w'.cell? ⟨tb, 0, none⟩ = some (.slice A n c) ∧ w'.cell? ⟨tb, 1, none⟩ = some (.map pm) ∧ tb < w'.heap.size ∧ Below w.heap.size w w')
    (first
      | exact ⟨c0, c1, hlt, (Below.refl _ _).drew⟩
      | (go_split_ands
         refine ⟨?_, ?_, ?_, ?_⟩
         all_goals first
           | assumption
           | exact qkeepc hb (by omega) (by assumption)
           | exact Nat.lt_of_lt_of_le (by assumption) hb.size
           | exact Below.hlink (by assumption) hb
           | exact (World.cell?_alloc_lt _ _ _ (by show tb < _; omega)).trans (by assumption)
           | exact qlt_alloc (by assumption) _
           | exact Below.alloc (by assumption) (Below.size (by assumption)) _))
    ((go_at_call 103; refine (KEY.out _ (by first | assumption | (go_split_ands; assumption) | exact (Below.refl _ _).drew)).mono ?_; rintro e wi ⟨v', rfl, hown, hb⟩; obtain ⟨a2, c2, rfl⟩ := hown_form hown))
  · obtain ⟨F, hF⟩ : ∃ F, F = (wi.alloc (.map #[] 0)).alloc (.cells #[.slice a2 n c2, .map (some wi.heap.size), .int .i64 (n : Int)] 112) := ⟨_, rfl⟩
    have hfa : F.heap[wi.heap.size + 1]? = some (.cells #[.slice a2 n c2, .map (some (wi.heap.size)), .int .i64 (n : Int)] 112 (0, 0)) := by rw [hF]; exact hheap_at _ _ _ (by simp)
    have hfm : F.ownsMap Tryz.prog 9 PR (wi.heap.size) 0 (.map []) := by rw [hF]; exact (World.ownsMap_made wi _ _ _).alloc _
    have hfo : F.ownsRow w.heap.size 108 1 (.slice a2 n c2) n (ptrs cl n) := by rw [hF]; exact (hown.alloc _).alloc _
    have hfb : Below w.heap.size w F := by rw [hF]; exact (Below.hlink (Below.refl _ _).drew hb |>.alloc (by have := hb.size; exact this) _).alloc (by have := hb.size; simp at this; simp; omega) _
    rw [← hF]
    have hft : F.cell? ⟨tb, 1, none⟩ = some (.map pm) := qkeepc hfb hlt c1
    have hf1 : F.cell? ⟨wi.heap.size + 1, 1, none⟩ = some (.map (some (wi.heap.size))) := by rw [kcells_of hfa]; rfl
    have hms : w.heap.size ≤ wi.heap.size := by have := hb.size; exact this
    have hns : w.heap.size ≤ wi.heap.size + 1 := by have := hb.size; simp at this; omega
    have hne : wi.heap.size + 1 ≠ wi.heap.size := by omega
    have K2 := Lib.hid (KEYC.out F.drew _ hfm.drew hms hfb.drew)
    have FA := Lib.hid hfa
    have FO := Lib.hid hfo
    have FB := Lib.hid hfb
    have FM := Lib.hid (ownsMap_obj hfm)
    clear hF hfa hfm hfo hfb
    go_wp2
    refine wp_region_still_tail 8 (by kernel_rfl) (by kernel_rfl) ?_
    change wpStill _ _ F.drew _ _ _
    simp only [List.take_succ_cons, List.take_zero, List.drop_succ_cons, List.drop_zero]
    repeat still_step
    refine wpStill_nil ?_
    change wpList _ _ _ _ _ F.drew
    go_wp2_with fail
    refine K2.out.mono ?_
    rintro e w' ⟨rfl, hm, hg⟩
    have HM := Lib.hid hm
    have HG := Lib.hid hg
    clear hm hg
    go_wp2
    go_ret
    have hz := HG.out.size
    have hbel := Below.grown FB.out.drew HG.out FB.out.size (fun k hk => by cases hk; exact hms)
    have hbs := hbel.size
    refine ⟨_, _, rfl, ⟨hfew, hbs, hns, hms, HM.out, _, (HG.out.block _ (lt_of_block FA.out) (fun e => hne (Option.some.inj e))).trans FA.out, ?_⟩, hbel⟩
    rw [← HN.out]
    exact own_grown_map (w := F.drew) FO.out FM.out HG.out
  · obtain ⟨F, hF⟩ : ∃ F, F = wi.alloc (.cells #[.slice a2 n c2, .map (some w.heap.size), .int .i64 (n : Int)] 112) := ⟨_, rfl⟩
    have hfa : F.heap[wi.heap.size]? = some (.cells #[.slice a2 n c2, .map (some (w.heap.size)), .int .i64 (n : Int)] 112 (0, 0)) := by rw [hF]; exact hheap_at _ _ _ (by simp)
    have hfm : F.ownsMap Tryz.prog 9 PR (w.heap.size) 0 (.map []) := by rw [hF]; exact (ownsMap_below (w := (w.alloc (.map #[] 0)).drew) (World.ownsMap_made w _ _ _) hb (by show w.heap.size < (w.alloc _).heap.size; simp)).alloc _
    have hfo : F.ownsRow w.heap.size 108 1 (.slice a2 n c2) n (ptrs cl n) := by rw [hF]; exact (hown_mono hown (by simp)).alloc _
    have hfb : Below w.heap.size w F := by rw [hF]; exact Below.alloc (((Below.refl w.heap.size w).alloc (Nat.le_refl _) _).drew.trans (hb.mono (by simp))) (by have := hb.size; simp at this; omega) _
    rw [← hF]
    have hft : F.cell? ⟨tb, 1, none⟩ = some (.map pm) := qkeepc hfb hlt c1
    have hf1 : F.cell? ⟨wi.heap.size, 1, none⟩ = some (.map (some (w.heap.size))) := by rw [kcells_of hfa]; rfl
    have hms : w.heap.size ≤ w.heap.size := by exact Nat.le_refl _
    have hns : w.heap.size ≤ wi.heap.size := by have := hb.size; simp at this; omega
    have hne : wi.heap.size ≠ w.heap.size := by have := hb.size; simp at this; omega
    have K2 := Lib.hid (KEYC.out F.drew _ hfm.drew hms hfb.drew)
    have FA := Lib.hid hfa
    have FO := Lib.hid hfo
    have FB := Lib.hid hfb
    have FM := Lib.hid (ownsMap_obj hfm)
    clear hF hfa hfm hfo hfb
    go_wp2
    refine wp_region_still_tail 8 (by kernel_rfl) (by kernel_rfl) ?_
    change wpStill _ _ F.drew _ _ _
    simp only [List.take_succ_cons, List.take_zero, List.drop_succ_cons, List.drop_zero]
    repeat still_step
    refine wpStill_nil ?_
    change wpList _ _ _ _ _ F.drew
    go_wp2_with fail
    refine K2.out.mono ?_
    rintro e w' ⟨rfl, hm, hg⟩
    have HM := Lib.hid hm
    have HG := Lib.hid hg
    clear hm hg
    go_wp2
    go_ret
    have hz := HG.out.size
    have hbel := Below.grown FB.out.drew HG.out FB.out.size (fun k hk => by cases hk; exact hms)
    have hbs := hbel.size
    refine ⟨_, _, rfl, ⟨hfew, hbs, hns, hms, HM.out, _, (HG.out.block _ (lt_of_block FA.out) (fun e => hne (Option.some.inj e))).trans FA.out, ?_⟩, hbel⟩
    rw [← HN.out]
    exact own_grown_map (w := F.drew) FO.out FM.out HG.out
theorem extended_any {B tb mb cap ow : Nat} {A : Option Addr} {cs : List PC} {cl sl : Nat → Nat} {S : Nat → List Nat} {w : World} (h : HT B tb mb A cap ow cs cl sl S w) :
  Calls Tryz.prog 78 #[.pointer (some ⟨tb, 0, none⟩)] w fun e w' => ∃ nb mb', e = .returned (.pointer (some ⟨nb, 0, none⟩)) ∧ AT w.heap.size nb mb' cs.length cs cl w' ∧ Below w.heap.size w w' := by
 have hf := h.tab.few
 refine extended_walk h.t0 ⟨_, _, rfl⟩ rfl hf (fun W nb ho hge hb => ?_) (fun W hb => ?_)
 ·have hm := h.map.same (hb.block mb h.map.lt)
  refine copy_any hm ho (fun e => ?_) hf
  have := h.map.lt
  omega
 ·refine clonePtr_any (B := w.heap.size) (Row.keep (h.all.more h.hB) fun p hp => hb.cell hp) (fun h0 => ?_) hf
  have := h.good.pos
  omega
theorem extended_nil {tb : Nat} (cl : Nat → Nat) {w : World} (t0 : w.heap[tb]? = some (.cells #[.slice none 0 0, .map none, .int .i64 0] 112 (0, 0))) :
  Calls Tryz.prog 78 #[.pointer (some ⟨tb, 0, none⟩)] w fun e w' => ∃ nb mb', e = .returned (.pointer (some ⟨nb, 0, none⟩)) ∧ AT w.heap.size nb mb' 0 [] cl w' ∧ Below w.heap.size w w' := by
 refine extended_walk (cs := []) t0 ⟨_, _, rfl⟩ rfl (by simp) (fun W nb ho hge hb => ?_) (fun W hb => ?_)
 ·refine copy_nil.mono ?_
  rintro e w' ⟨rfl, rfl⟩
  exact ⟨rfl, ⟨0, .map [], by simp, ho.alloc _, fun nm => rfl⟩, World.grownBy_alloc _ _ _⟩
 ·exact clonePtr_any (B := W.heap.size) Row.nil (fun _ => rfl) (by simp)
set_option maxRecDepth 1000000 in
set_option maxHeartbeats 1600000 in
theorem isClass_any {c : Nat} {k : KC} {w : World} (hc : KAt c k w) :
  Calls Tryz.prog 110 #[.pointer (some ⟨c, 0, none⟩)] w fun e w' => e = .returned (.bool (!k.iface)) ∧ w' = w := by
 have c3 : w.cell? ⟨c, 3, none⟩ = some (.bool k.iface) := hc.cell 3
 generalize k.iface = x at *
 clear hc
 go_enter Tryz.func110, Tryz.ntmps110
 go_wp2
 go_ret
 exact ⟨rfl, rfl⟩
theorem beq_eq_decide (a b : List UInt8) : (a == b) = decide (a = b) := by
 by_cases h : a = b <;> simp [h]
set_option maxRecDepth 1000000 in
set_option maxHeartbeats 1600000 in
theorem isSealed_any (s : ByteArray) (w : World) :
    Calls Tryz.prog 108 #[.string s] w fun e w' => e = .returned (.bool (decide (s.toList = strB ∨ s.toList = weakB ∨ s.toList = loadB))) ∧ w' = w := by
  go_enter Tryz.func108, Tryz.ntmps108
  go_wp2
  all_goals
    go_ret
    refine ⟨?_, rfl⟩
    refine congrArg (fun b => Ending.returned (Value.bool b)) (a₁ := _) ?_
    unfold strB weakB loadB
    first
      | (simp [*]; done)
      | (rename_i q1 q2
         rw [beq_eq_decide, beq_eq_decide, beq_eq_decide, decide_eq_false q1, decide_eq_false q2]
         simp [q1, q2])
end Go.Proofs.YtmaknddlgppinaaGreatDoor
