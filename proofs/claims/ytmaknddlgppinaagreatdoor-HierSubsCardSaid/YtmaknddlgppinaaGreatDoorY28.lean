/-
  CUT and joined from the texts of this seat: Jb Jc
-/
import Derived.Test.YtmaknddlgppinaaGreatDoorY27
set_option linter.unusedVariables false
set_option linter.unusedSimpArgs false
namespace Go.Proofs.YtmaknddlgppinaaGreatDoor
open Go.RowKit
theorem und91 : Tryz.prog.underlying 91 = some (.slice 138) := by kernel_rfl
theorem und29 : Tryz.prog.underlying 29 = some (.slice 3) := by kernel_rfl
theorem info138 : ∃ i, Tryz.prog.info? 138 = some i ∧ i.zero = some (.agg #[.int .i64 0, .string ⟨#[]⟩, .int .i64 0, .int .i64 0, .int .i64 0, .int .i64 0]) ∧ i.size = 6 ∧ i.bytes = 56 := info_parts (by kernel_rfl)
theorem info3 : ∃ i, Tryz.prog.info? 3 = some i ∧ i.zero = some (.int .i64 0) ∧ i.size = 1 ∧ i.bytes = 8 := info_parts (by kernel_rfl)
theorem ltc_of {w : World} {b i : Nat} {v : Value} (h : w.cell? ⟨b, i, none⟩ = some v) : b < w.heap.size := by
 unfold World.cell? at h
 cases hb : w.heap[b]? with
 | none => simp only [hb] at h; cases h
 | some o => exact lt_of_block hb
theorem own_grown_ty {w w' : World} {base base2 : Nat} {e e2 : TypeId} {size size2 : Nat} {u v : Value} {n n2 : Nat} {xs ys : List Value} (h : w.ownsRow base e size u n xs) (h2 : w.ownsRow base2 e2 size2 v n2 ys) (he : e2 ≠ e) (hg : w.grownBy w' v.ownBlock) : w'.ownsRow base e size u n xs := by
 refine h.kept hg ?_
 rcases h2.2 with ⟨rfl, _⟩ | ⟨g, cap, cur, rfl, _, hgg, _⟩
 ·cases hu : u.ownBlock with
  | none => exact .inl rfl
  | some q => right; simp [Value.ownBlock]
 ·right
  exact hown_ne h hgg he
theorem own_grown_new {w w' : World} {o : Obj} {base base2 : Nat} {e e2 : TypeId} {size size2 : Nat} {u v : Value} {n n2 : Nat} {xs ys : List Value} (h : w.ownsRow base e size u n xs) (h2 : w.ownsRow base2 e2 size2 v n2 ys) (he : e2 ≠ e) (hg : (w.alloc o).drew.grownBy w' v.ownBlock) : w'.ownsRow base e size u n xs :=
 own_grown_ty (w := (w.alloc o).drew) (h.alloc o) (h2.alloc o) he hg
theorem below_grown_new {w0 w w' : World} {B : Nat} {o : Obj} {v : Value} (h : Below B w0 w) (hB : B ≤ w.heap.size) (hg : (w.alloc o).drew.grownBy w' v.ownBlock) (hv : ∀ q, v.ownBlock = some q → B ≤ q) : Below B w0 w' :=
 Below.grown (h.alloc hB o).drew hg (by show B ≤ (w.alloc o).heap.size; simp; omega) hv
theorem own_set_ty {w : World} {base : Nat} {e : TypeId} {size : Nat} {v : Value} {n : Nat} {xs : List Value} (h : w.ownsRow base e size v n xs) {b : Nat} {cs : Array Value} {t : TypeId} {m : Nat × Nat} (hb : w.heap[b]? = some (.cells cs t m)) (ht : t ≠ e) (i : Nat) (u : Value) : (w.setCell ⟨b, i, none⟩ u).ownsRow base e size v n xs :=
 hown_but h ((HBut.refl b b w).set b (.inl rfl)) (hown_ne h hb ht) (hown_ne h hb ht)
theorem ifPool_snoc (s : ByteArray) : ∀ (l : List ByteArray) (i : Nat), ifPool (l ++ [s]) i = ifPool l i ++ [cn1 s, cn4 (5 + 2 * ((i + l.length : Nat) : Int))]
 | [], i => by simp [ifPool]
 | x :: l, i => by
  simp only [List.cons_append, ifPool, ifPool_snoc s l (i + 1), List.length_cons]
  rw [show i + 1 + l.length = i + (l.length + 1) by omega]
def poolR (nm sp : ByteArray) (l : List ByteArray) : List Cn := [cn1 nm, cn4 1, cn1 sp, cn4 3] ++ ifPool l 0
def ifsR (n : Nat) : List Int := (List.range n).map fun (i : Nat) => 6 + 2 * (i : Int)
theorem poolR_len (nm sp : ByteArray) (l : List ByteArray) : (poolR nm sp l).length = 4 + 2 * l.length := by simp [poolR, ifPool_length]; omega
theorem poolR_snoc (nm sp : ByteArray) (l : List ByteArray) (s : ByteArray) : (poolR nm sp (l ++ [s])).flatMap ccells = (poolR nm sp l).flatMap ccells ++ [.int .i64 1, .string s, .int .i64 0, .int .i64 0, .int .i64 0, .int .i64 0, .int .i64 4, .string ⟨#[]⟩, .int .i64 0, .int .i64 (5 + 2 * (l.length : Int)), .int .i64 0, .int .i64 0] := by
 unfold poolR
 rw [ifPool_snoc, ← List.append_assoc, List.flatMap_append]
 simp [cn1, cn4, ccells]
theorem ifsR_snoc (n : Nat) : ifsR (n + 1) = ifsR n ++ [6 + 2 * (n : Int)] := by simp [ifsR, List.range_succ]
theorem fset7j {w : World} {b : Nat} {x0 x1 x2 x3 x4 x5 x6 : Value} {t : TypeId} {m : Nat × Nat} (h : w.heap[b]? = some (.cells #[x0, x1, x2, x3, x4, x5, x6] t m)) (v0 v1 v2 v3 v4 v5 v6 : Value) :
  (((((((w.setCell ⟨b, 0, none⟩ v0).setCell ⟨b, 1, none⟩ v1).setCell ⟨b, 2, none⟩ v2).setCell ⟨b, 3, none⟩ v3).setCell ⟨b, 4, none⟩ v4).setCell ⟨b, 5, none⟩ v5).setCell ⟨b, 6, none⟩ v6).heap[b]? = some (.cells #[v0, v1, v2, v3, v4, v5, v6] t m) := by
 have h1 : (w.setCell ⟨b, 0, none⟩ v0).heap[b]? = some (.cells #[v0, x1, x2, x3, x4, x5, x6] t m) := by rw [heap_set_eq h]; rfl
 generalize w.setCell ⟨b, 0, none⟩ v0 = W0 at *
 have h2 : (W0.setCell ⟨b, 1, none⟩ v1).heap[b]? = some (.cells #[v0, v1, x2, x3, x4, x5, x6] t m) := by rw [heap_set_eq h1]; rfl
 generalize W0.setCell ⟨b, 1, none⟩ v1 = W1 at *
 have h3 : (W1.setCell ⟨b, 2, none⟩ v2).heap[b]? = some (.cells #[v0, v1, v2, x3, x4, x5, x6] t m) := by rw [heap_set_eq h2]; rfl
 generalize W1.setCell ⟨b, 2, none⟩ v2 = W2 at *
 have h4 : (W2.setCell ⟨b, 3, none⟩ v3).heap[b]? = some (.cells #[v0, v1, v2, v3, x4, x5, x6] t m) := by rw [heap_set_eq h3]; rfl
 generalize W2.setCell ⟨b, 3, none⟩ v3 = W3 at *
 have h5 : (W3.setCell ⟨b, 4, none⟩ v4).heap[b]? = some (.cells #[v0, v1, v2, v3, v4, x5, x6] t m) := by rw [heap_set_eq h4]; rfl
 generalize W3.setCell ⟨b, 4, none⟩ v4 = W4 at *
 have h6 : (W4.setCell ⟨b, 5, none⟩ v5).heap[b]? = some (.cells #[v0, v1, v2, v3, v4, v5, x6] t m) := by rw [heap_set_eq h5]; rfl
 generalize W4.setCell ⟨b, 5, none⟩ v5 = W5 at *
 rw [heap_set_eq h6]; rfl
theorem fbelow7j {B b : Nat} {a w : World} (h : Below B a w) (hb : B ≤ b) (v0 v1 v2 v3 v4 v5 v6 : Value) :
  Below B a (((((((w.setCell ⟨b, 0, none⟩ v0).setCell ⟨b, 1, none⟩ v1).setCell ⟨b, 2, none⟩ v2).setCell ⟨b, 3, none⟩ v3).setCell ⟨b, 4, none⟩ v4).setCell ⟨b, 5, none⟩ v5).setCell ⟨b, 6, none⟩ v6) :=
 ((((((h.setCell hb v0).setCell hb v1).setCell hb v2).setCell hb v3).setCell hb v4).setCell hb v5).setCell hb v6
/-- A file that is being made: j of its interfaces stand in it. -/
structure FB (w0 : World) (fl : Int) (nm sp : ByteArray) (l : List ByteArray) (j : Nat) (vp vi : Value) (wx : World) : Prop where
 box : wx.heap[w0.heap.size + 1 + 1]? = some (.cells #[vp, .int .i64 fl, .int .i64 2, .int .i64 4, vi, .slice none 0 0, .slice none 0 0] 94 (0, 0))
 res : wx.heap[w0.heap.size]? = some (.cells #[.slice none 0 0, .int .i64 0, .int .i64 0, .int .i64 0, .slice none 0 0, .slice none 0 0, .slice none 0 0] 94 (0, 0))
 pool : wx.ownsRow w0.heap.size 138 6 vp (4 + 2 * j) ((poolR nm sp (l.take j)).flatMap ccells)
 ifs : wx.ownsRow w0.heap.size 3 1 vi j (iccells (ifsR j))
 below : Below w0.heap.size w0 wx
/-- .. of which one has its constants already. -/
structure FM (w0 : World) (fl : Int) (nm sp : ByteArray) (l : List ByteArray) (j : Nat) (vi : Value) (wx : World) : Prop where
 ex : ∃ vp, wx.heap[w0.heap.size + 1 + 1]? = some (.cells #[vp, .int .i64 fl, .int .i64 2, .int .i64 4, vi, .slice none 0 0, .slice none 0 0] 94 (0, 0)) ∧ wx.ownsRow w0.heap.size 138 6 vp (4 + 2 * (j + 1)) ((poolR nm sp (l.take (j + 1))).flatMap ccells)
 res : wx.heap[w0.heap.size]? = some (.cells #[.slice none 0 0, .int .i64 0, .int .i64 0, .int .i64 0, .slice none 0 0, .slice none 0 0, .slice none 0 0] 94 (0, 0))
 ifs : wx.ownsRow w0.heap.size 3 1 vi j (iccells (ifsR j))
 below : Below w0.heap.size w0 wx
theorem FM.make {w0 w3 : World} {fl : Int} {nm sp : ByteArray} {l : List ByteArray} {j : Nat} {vp vi v3 : Value} {s : ByteArray} (hs : l[j]? = some s) (hl : j ≤ l.length)
  (K3 : w3.heap[w0.heap.size + 1 + 1]? = some (.cells #[vp, .int .i64 fl, .int .i64 2, .int .i64 4, vi, .slice none 0 0, .slice none 0 0] 94 (0, 0)))
  (R3 : w3.heap[w0.heap.size]? = some (.cells #[.slice none 0 0, .int .i64 0, .int .i64 0, .int .i64 0, .slice none 0 0, .slice none 0 0, .slice none 0 0] 94 (0, 0)))
  (own3 : w3.ownsRow w0.heap.size 138 6 v3 (4 + 2 * j + 2) ((poolR nm sp (l.take j)).flatMap ccells ++ [.int .i64 1, .string s, .int .i64 0, .int .i64 0, .int .i64 0, .int .i64 0, .int .i64 4, .string ⟨#[]⟩, .int .i64 0, .int .i64 (5 + 2 * (j : Int)), .int .i64 0, .int .i64 0]))
  (I3 : w3.ownsRow w0.heap.size 3 1 vi j (iccells (ifsR j))) (B3 : Below w0.heap.size w0 w3) : FM w0 fl nm sp l j vi (w3.setCell ⟨w0.heap.size + 1 + 1, 0, none⟩ v3) := by
 refine ⟨⟨v3, by rw [heap_set_eq K3]; rfl, ?_⟩, hheap_set_ne (by show w0.heap.size ≠ w0.heap.size + 1 + 1; omega) R3, own_set_ty I3 K3 (by decide) _ _, B3.setCell (p := ⟨w0.heap.size + 1 + 1, 0, none⟩) (by show w0.heap.size ≤ w0.heap.size + 1 + 1; omega) _⟩
 have e : l.take (j + 1) = l.take j ++ [s] := by rw [List.take_add_one, hs]; rfl
 have e2 : (l.take j).length = j := by rw [List.length_take]; omega
 have := own_set_ty own3 K3 (by decide) 0 v3
 rw [e, poolR_snoc, e2, show 4 + 2 * (j + 1) = 4 + 2 * j + 2 by omega]
 exact this
theorem FM.next {w0 w3 : World} {fl : Int} {nm sp : ByteArray} {l : List ByteArray} {j : Nat} {vp vi v3 : Value} (K3 : w3.heap[w0.heap.size + 1 + 1]? = some (.cells #[vp, .int .i64 fl, .int .i64 2, .int .i64 4, vi, .slice none 0 0, .slice none 0 0] 94 (0, 0)))
  (R3 : w3.heap[w0.heap.size]? = some (.cells #[.slice none 0 0, .int .i64 0, .int .i64 0, .int .i64 0, .slice none 0 0, .slice none 0 0, .slice none 0 0] 94 (0, 0)))
  (P3 : w3.ownsRow w0.heap.size 138 6 vp (4 + 2 * (j + 1)) ((poolR nm sp (l.take (j + 1))).flatMap ccells)) (own3 : w3.ownsRow w0.heap.size 3 1 v3 (j + 1) (iccells (ifsR j) ++ [.int .i64 (6 + 2 * (j : Int))])) (B3 : Below w0.heap.size w0 w3) :
  FB w0 fl nm sp l (j + 1) vp v3 (w3.setCell ⟨w0.heap.size + 1 + 1, 4, none⟩ v3) := by
 refine ⟨by rw [heap_set_eq K3]; rfl, hheap_set_ne (by show w0.heap.size ≠ w0.heap.size + 1 + 1; omega) R3, own_set_ty P3 K3 (by decide) _ _, ?_, B3.setCell (p := ⟨w0.heap.size + 1 + 1, 4, none⟩) (by show w0.heap.size ≤ w0.heap.size + 1 + 1; omega) _⟩
 have e : iccells (ifsR (j + 1)) = iccells (ifsR j) ++ [.int .i64 (6 + 2 * (j : Int))] := by rw [ifsR_snoc]; simp [iccells]
 rw [e]
 exact own_set_ty own3 K3 (by decide) _ _
/-- What file answers. -/
def FileAns (fl : Int) (nm sp : ByteArray) (l : List ByteArray) (w w' : World) (e : Ending) : Prop :=
 ∃ vp vi, e = .returned (.agg #[vp, .int .i64 fl, .int .i64 2, .int .i64 4, vi, .slice none 0 0, .slice none 0 0]) ∧ w'.ownsRow w.heap.size 138 6 vp (4 + 2 * l.length) ((poolR nm sp l).flatMap ccells) ∧ w'.ownsRow w.heap.size 3 1 vi l.length (iccells (ifsR l.length)) ∧ Below w.heap.size w w'
set_option maxRecDepth 1000000 in
set_option maxHeartbeats 6400000 in
theorem file_any (fl : Int) (nm sp : ByteArray) (l : List ByteArray) {B : Nat} (v : Value) (w : World) (hr : Row B 1 w v l.length (scells l)) (hB : B ≤ w.heap.size) (hl : l.length ≤ 100) :
    Calls Tryz.prog 57 #[.int .i64 fl, .string nm, .string sp, v] w fun e w' => FileAns fl nm sp l w w' e := by
  obtain ⟨A, cap, rfl, hcap, hmax, hread⟩ := hr
  have HR := Lib.hid hread
  obtain ⟨i0, hi0, hz0, hz1, hz2⟩ := info138
  obtain ⟨i3, hi3, hy0, hy1, hy2⟩ := info3
  clear hread
  go_enter Tryz.func57, Tryz.ntmps57
  go_wp2
  go_loopg [10] l.length (fun gk iv wx => ∃ (j : Nat) (vp vi : Value), iv = .int .i64 j ∧ j + gk = l.length ∧ FB w fl nm sp l j vp vi wx)
  case atStart =>
    obtain ⟨W, hW⟩ : ∃ W, W = ((w.alloc (.cells #[.slice none 0 0, .int .i64 0, .int .i64 0, .int .i64 0, .slice none 0 0, .slice none 0 0, .slice none 0 0] 94)).alloc (.cells #[.int .i64 1, .string nm, .int .i64 0, .int .i64 0, .int .i64 0, .int .i64 0, .int .i64 4, .string ⟨#[]⟩, .int .i64 0, .int .i64 1, .int .i64 0, .int .i64 0, .int .i64 1, .string sp, .int .i64 0, .int .i64 0, .int .i64 0, .int .i64 0, .int .i64 4, .string ⟨#[]⟩, .int .i64 0, .int .i64 3, .int .i64 0, .int .i64 0] 138)).alloc (.cells #[.slice (some ⟨w.heap.size + 1, 0, none⟩) 4 4, .int .i64 fl, .int .i64 2, .int .i64 4, .slice none 0 0, .slice none 0 0, .slice none 0 0] 94) := ⟨_, rfl⟩
    refine ⟨0, .slice (some ⟨w.heap.size + 1, 0, none⟩) 4 4, .slice none 0 0, rfl, by omega, ?_⟩
    rw [show ((w.alloc (.cells #[.slice none 0 0, .int .i64 0, .int .i64 0, .int .i64 0, .slice none 0 0, .slice none 0 0, .slice none 0 0] 94)).alloc (.cells #[.int .i64 1, .string nm, .int .i64 0, .int .i64 0, .int .i64 0, .int .i64 0, .int .i64 4, .string ⟨#[]⟩, .int .i64 0, .int .i64 1, .int .i64 0, .int .i64 0, .int .i64 1, .string sp, .int .i64 0, .int .i64 0, .int .i64 0, .int .i64 0, .int .i64 4, .string ⟨#[]⟩, .int .i64 0, .int .i64 3, .int .i64 0, .int .i64 0] 138)).alloc (.cells #[.slice (some ⟨w.heap.size + 1, 0, none⟩) 4 4, .int .i64 fl, .int .i64 2, .int .i64 4, .slice none 0 0, .slice none 0 0, .slice none 0 0] 94) = W from hW.symm]
    refine ⟨?_, ?_, ?_, World.ownsRow_nil _ _ _ _, ?_⟩
    · rw [hW]; exact hheap_at _ _ _ (by simp)
    · rw [hW]; exact hheap_alloc_lt (hheap_alloc_lt (hheap_new w _))
    · have h1 : W.heap[w.heap.size + 1]? = some (.cells ((poolR nm sp ([] : List ByteArray)).flatMap ccells).toArray 138 (0, 0)) := by rw [hW]; exact hheap_alloc_lt (hheap_at _ _ _ (by simp))
      exact hown_new h1 (by omega) rfl (by unfold maxLen; decide)
    · rw [hW]; exact (((Below.refl _ _).alloc (Nat.le_refl _) _).alloc (by simp) _).alloc (by simp; omega) _
  case round =>
    obtain ⟨j, vp, vi, rfl, hjg, hF⟩ := hrel
    have HF := Lib.hid hF
    have hbs := hF.below.size
    by_cases hj : j < l.length
    · have hgg : gk - 1 < gk := by omega
      obtain ⟨s, hs⟩ : ∃ s, l[j]? = some s := ⟨_, List.getElem?_eq_getElem hj⟩
      obtain ⟨b, o, rfl, hb, hc⟩ := HR.out.2 (by omega)
      have cs0 : wr.cell? ⟨b, o + j, none⟩ = some (.string s) := (hF.below.cell (p := ⟨b, o + j, none⟩) (by show b < _; omega)).trans (hc j _ (by unfold scells; rw [List.getElem?_map, hs]; rfl))
      obtain ⟨ap, cp, rfl⟩ := hown_form hF.pool
      obtain ⟨ai, ci, rfl⟩ := hown_form hF.ifs
      have x0 := kcells_of hF.box 0
      have x4 := kcells_of hF.box 4
      have xf := kfree_of hF.box
      simp only [List.getElem?_toArray, List.getElem?_cons_succ, List.getElem?_cons_zero] at x0 x4
      have hxl := lt_of_block hF.box
      have HS := Lib.hid hs
      have hj100 : j ≤ 100 := by omega
      clear hF hs hc
      have hbx := ltc_of x0
      have k1 : IntKind.i64.wrap (2 * (j : Int)) = 2 * (j : Int) := IntWalk.i64_in _ (by omega)
      have k2 : IntKind.i64.wrap (5 + 2 * (j : Int)) = 5 + 2 * (j : Int) := IntWalk.i64_in _ (by omega)
      have k3 : IntKind.i64.wrap (6 + 2 * (j : Int)) = 6 + 2 * (j : Int) := IntWalk.i64_in _ (by omega)
      have c9a : ∀ (n : Nat) (o : Obj), ((wr.drewN n).alloc o).cell? ⟨w.heap.size + 1 + 1, 0, none⟩ = some (.slice ap (4 + 2 * j) cp) := fun n o => (World.cell?_alloc_lt _ _ _ hbx).trans x0
      have c9b : ∀ (o : Obj), (wr.drew.alloc o).cell? ⟨w.heap.size + 1 + 1, 0, none⟩ = some (.slice ap (4 + 2 * j) cp) := fun o => c9a 1 o
      go_wp2
      go_cut [] (fun wx => FM w fl nm sp l j (.slice ai j ci) wx)
      case first =>
        go_region_law (first
          | (refine hstep_append_own2 rfl (.tmp 27) (.tmp 37) 91 rfl w.heap.size 138 i0 (.agg #[.int .i64 0, .string ⟨#[]⟩, .int .i64 0, .int .i64 0, .int .i64 0, .int .i64 0]) 6 56 und91 hi0 hz0 hz1 hz2 rfl (by decide) (.slice ap (4 + 2 * j) cp) (4 + 2 * j) _ rfl (World.ownsRow.alloc HF.out.pool _) ⟨_, 0, none⟩ 2 2 [.int .i64 1, .string s, .int .i64 0, .int .i64 0, .int .i64 0, .int .i64 0, .int .i64 4, .string ⟨#[]⟩, .int .i64 0, .int .i64 (5 + 2 * (j : Int)), .int .i64 0, .int .i64 0] rfl rfl (knew_at _ [.int .i64 1, .string s, .int .i64 0, .int .i64 0, .int .i64 0, .int .i64 0, .int .i64 4, .string ⟨#[]⟩, .int .i64 0, .int .i64 (5 + 2 * (j : Int)), .int .i64 0, .int .i64 0] 138 _ (by simp)) (fun u hu => by simp only [List.mem_cons, List.not_mem_nil, or_false] at hu; rcases hu with rfl | rfl | rfl | rfl | rfl | rfl | rfl | rfl | rfl | rfl | rfl | rfl <;> rfl) (by unfold maxLen; omega) (by omega) (by simp; omega) ?_
             intro v3 w3 own3 hg3 hm3
             have K3 := grown_block hg3 (hheap_alloc_lt HF.out.box) (hown_ne HF.out.pool HF.out.box (by decide))
             have R3 := grown_block hg3 (hheap_alloc_lt HF.out.res) (hown_ne HF.out.pool HF.out.res (by decide))
             have I3 := own_grown_new HF.out.ifs HF.out.pool (by decide) hg3
             have B3 := below_grown_new HF.out.below hbs hg3 (fun q hq => hown_block_ge HF.out.pool q hq)
             obtain ⟨a3, c3, rfl⟩ := hown_form own3
             have k0 := kcells_of K3 0
             have kf := kfree_of K3
             have OW3 := Lib.hid own3
             have KK3 := Lib.hid K3
             have RR3 := Lib.hid R3
             have II3 := Lib.hid I3
             have BB3 := Lib.hid B3
             clear own3 hg3 hm3 K3 R3 I3 B3))
        all_goals (try go_wp2)
        all_goals (go_meet; case rel => exact FM.make HS.out (by omega) KK3.out RR3.out OW3.out II3.out BB3.out)
      have hm := Lib.hid hcut
      obtain ⟨vp2, hbox2, hpool2⟩ := hcut.ex
      have y4 := kcells_of hbox2 4
      have yf := kfree_of hbox2
      simp only [List.getElem?_toArray, List.getElem?_cons_succ, List.getElem?_cons_zero] at y4
      have hyl := lt_of_block hbox2
      have hys := hcut.below.size
      have HB2 := Lib.hid hbox2
      have HP2 := Lib.hid hpool2
      clear hcut hbox2 hpool2 x0 x4 xf c9a c9b hxl hbx
      go_wp2_with (at_builtin; refine hwpList_append_own2 rfl (.tmp 41) (.tmp 45) 29 rfl w.heap.size 3 i3 (.int .i64 0) 1 8 und29 hi3 hy0 hy1 hy2 rfl (by decide) (.slice ai j ci) j _ rfl (World.ownsRow.alloc hm.out.ifs _) ⟨_, 0, none⟩ 1 1 [.int .i64 (6 + 2 * (j : Int))] rfl rfl (knew_at _ [.int .i64 (6 + 2 * (j : Int))] 3 _ (by simp)) (fun u hu => by simp at hu; subst hu; rfl) (by unfold maxLen; omega) (by omega) (by simp; omega) ?_; intro v3 w3 own3 hg3 hm3; have K3 := grown_block hg3 (hheap_alloc_lt HB2.out) (hown_ne hm.out.ifs HB2.out (by decide)); have R3 := grown_block hg3 (hheap_alloc_lt hm.out.res) (hown_ne hm.out.ifs hm.out.res (by decide)); have P3 := own_grown_ty (HP2.out.alloc _) (hm.out.ifs.alloc _) (by decide) hg3; have B3 := Below.grown (hm.out.below.alloc hys _) hg3 (by simp; omega) (fun q hq => hown_block_ge hm.out.ifs q hq); have kf := kfree_of K3; have k0 := kcells_of K3 4; simp only [List.getElem?_toArray, List.getElem?_cons_succ, List.getElem?_cons_zero] at k0; obtain ⟨a3, c3, rfl⟩ := hown_form own3; have OW3 := Lib.hid own3; have KK3 := Lib.hid K3; have RR3 := Lib.hid R3; have PP3 := Lib.hid P3; have BB3 := Lib.hid B3; clear own3 hg3 hm3 K3 R3 P3 B3)
      go_roundg (gk - 1)
      case measure => exact hgg
      case rel => exact ⟨j + 1, _, _, by go_num, by omega, FM.next KK3.out RR3.out PP3.out OW3.out BB3.out⟩
    · obtain rfl : l.length = j := by omega
      obtain ⟨ap, cp, rfl⟩ := hown_form hF.pool
      obtain ⟨ai, ci, rfl⟩ := hown_form hF.ifs
      have x0 := kcells_of hF.box 0
      have x1 := kcells_of hF.box 1
      have x2 := kcells_of hF.box 2
      have x3 := kcells_of hF.box 3
      have x4 := kcells_of hF.box 4
      have x5 := kcells_of hF.box 5
      have x6 := kcells_of hF.box 6
      have r0 := kcells_of hF.res 0
      have r1 := kcells_of hF.res 1
      have r2 := kcells_of hF.res 2
      have r3 := kcells_of hF.res 3
      have r4 := kcells_of hF.res 4
      have r5 := kcells_of hF.res 5
      have r6 := kcells_of hF.res 6
      have rf := kfree_of hF.res
      simp only [List.getElem?_toArray, List.getElem?_cons_succ, List.getElem?_cons_zero] at x0 x1 x2 x3 x4 x5 x6 r0 r1 r2 r3 r4 r5 r6
      have hxl := lt_of_block hF.box
      clear hF
      go_wp2
      have z := fset7j HF.out.res (.slice ap (4 + 2 * l.length) cp) (.int .i64 fl) (.int .i64 2) (.int .i64 4) (.slice ai l.length ci) (.slice none 0 0) (.slice none 0 0)
      have hbe := fbelow7j (B := w.heap.size) (b := w.heap.size) HF.out.below (Nat.le_refl _) (.slice ap (4 + 2 * l.length) cp) (.int .i64 fl) (.int .i64 2) (.int .i64 4) (.slice ai l.length ci) (.slice none 0 0) (.slice none 0 0)
      have hbut : HBut w.heap.size w.heap.size wr (((((((wr.setCell ⟨w.heap.size, 0, none⟩ (.slice ap (4 + 2 * l.length) cp)).setCell ⟨w.heap.size, 1, none⟩ (.int .i64 fl)).setCell ⟨w.heap.size, 2, none⟩ (.int .i64 2)).setCell ⟨w.heap.size, 3, none⟩ (.int .i64 4)).setCell ⟨w.heap.size, 4, none⟩ (.slice ai l.length ci)).setCell ⟨w.heap.size, 5, none⟩ (.slice none 0 0)).setCell ⟨w.heap.size, 6, none⟩ (.slice none 0 0)) := (((((((HBut.refl _ _ wr).set _ (.inl rfl)).set _ (.inl rfl)).set _ (.inl rfl)).set _ (.inl rfl)).set _ (.inl rfl)).set _ (.inl rfl)).set _ (.inl rfl)
      obtain ⟨WF, hWF⟩ : ∃ W, W = ((((((wr.setCell ⟨w.heap.size, 0, none⟩ (.slice ap (4 + 2 * l.length) cp)).setCell ⟨w.heap.size, 1, none⟩ (.int .i64 fl)).setCell ⟨w.heap.size, 2, none⟩ (.int .i64 2)).setCell ⟨w.heap.size, 3, none⟩ (.int .i64 4)).setCell ⟨w.heap.size, 4, none⟩ (.slice ai l.length ci)).setCell ⟨w.heap.size, 5, none⟩ (.slice none 0 0)).setCell ⟨w.heap.size, 6, none⟩ (.slice none 0 0) := ⟨_, rfl⟩
      rw [← hWF] at z hbe hbut ⊢
      have z0 := kcells_of z 0
      have z1 := kcells_of z 1
      have z2 := kcells_of z 2
      have z3 := kcells_of z 3
      have z4 := kcells_of z 4
      have z5 := kcells_of z 5
      have z6 := kcells_of z 6
      simp only [List.getElem?_toArray, List.getElem?_cons_succ, List.getElem?_cons_zero] at z0 z1 z2 z3 z4 z5 z6
      refine bodyPost_ret (v := .agg #[.slice ap (4 + 2 * l.length) cp, .int .i64 fl, .int .i64 2, .int .i64 4, .slice ai l.length ci, .slice none 0 0, .slice none 0 0]) (by simp [results, Tryz.results57, go_sem, z0, z1, z2, z3, z4, z5, z6]) rfl ?_
      have hp := HF.out.pool
      rw [List.take_length] at hp
      exact ⟨_, _, rfl, hown_but hp hbut (hown_ne hp HF.out.res (by decide)) (hown_ne hp HF.out.res (by decide)), hown_but HF.out.ifs hbut (hown_ne HF.out.ifs HF.out.res (by decide)) (hown_ne HF.out.ifs HF.out.res (by decide)), hbe⟩
/-- A class of raw parts. -/
structure Rw where
 fl : Int
 nm : Int
 sp : Int
 ifs : List Int
def B64 (z : Int) : Prop := -9223372036854775808 ≤ z ∧ z ≤ 9223372036854775807
structure Rw.Ok (r : Rw) : Prop where
 fl : B64 r.fl
 nm : B64 r.nm
 sp : B64 r.sp
 ifs : ∀ z ∈ r.ifs, B64 z
def flR (c : Int) : Int := ([0, 0, 2, 3] : List Int).getD (pickN c 4) 0
def ifnR (r : Rw) : List ByteArray := (r.ifs.take 4).map nmR
def fileR (r : Rw) : Fl := rawP (flR r.fl) (nmR r.nm) (nmR r.sp) (ifnR r)
def filesR (rs : List Rw) : List Fl := (rs.take 70).map fileR
def rwcells (r : Rw) (x : Value) : List Value := [.int .i64 r.fl, .int .i64 r.nm, .int .i64 r.sp, x]
/-- A row of raw parts. -/
structure RawsRow (B : Nat) (w : World) (v : Value) (rs : List Rw) : Prop where
 ex : ∃ xs : List Value, xs.length = rs.length ∧ (∀ (i : Nat) (r : Rw) (x : Value), rs[i]? = some r → xs[i]? = some x → IRow B w x r.ifs) ∧ Row B 4 w v rs.length ((rs.zip xs).flatMap fun p => rwcells p.1 p.2)
 ok : ∀ r ∈ rs, r.Ok
theorem zip_flat {rs : List Rw} : ∀ {xs : List Value} {k : Nat} {r : Rw} {x : Value}, rs[k]? = some r → xs[k]? = some x → ∀ j, j < 4 → ((rs.zip xs).flatMap fun p => rwcells p.1 p.2)[k * 4 + j]? = (rwcells r x)[j]? := by
 induction rs with
 | nil => intro xs k r x h; simp at h
 | cons r0 rs ih =>
  intro xs k r x h1 h2 j hj
  cases xs with
  | nil => simp at h2
  | cons x0 xs =>
   rw [List.zip_cons_cons, List.flatMap_cons]
   cases k with
   | zero =>
    simp only [List.getElem?_cons_zero, Option.some.injEq] at h1 h2
    subst h1; subst h2
    rw [Nat.zero_mul, Nat.zero_add, List.getElem?_append_left (by simpa [rwcells] using hj)]
   | succ k =>
    rw [List.getElem?_cons_succ] at h1 h2
    rw [List.getElem?_append_right (by simp [rwcells]; omega)]
    have := ih h1 h2 j hj
    rw [← this]
    congr 1
    simp [rwcells]
    omega
theorem RawsRow.form {B : Nat} {w : World} {v : Value} {rs : List Rw} (h : RawsRow B w v rs) : ∃ A cap, v = .slice A rs.length cap ∧ rs.length ≤ cap ∧ rs.length ≤ maxLen := by
 obtain ⟨xs, _, _, A, cap, e, h1, h2, _⟩ := h.ex
 exact ⟨A, cap, e, h1, h2⟩
theorem RawsRow.keep {B : Nat} {w w' : World} {v : Value} {rs : List Rw} (h : RawsRow B w v rs) (hk : ∀ p : Addr, p.block < B → w'.cell? p = w.cell? p) : RawsRow B w' v rs := by
 obtain ⟨xs, h1, h2, h3⟩ := h.ex
 exact ⟨⟨xs, h1, fun i r x a b => Row.keep (h2 i r x a b) hk, h3.keep hk⟩, h.ok⟩
theorem RawsRow.at_ {B : Nat} {w : World} {A : Option Addr} {n cap k : Nat} {rs : List Rw} {r : Rw} (h : RawsRow B w (.slice A n cap) rs) (hk : rs[k]? = some r) :
  ∃ b o Ai ci, A = some ⟨b, o, none⟩ ∧ b < B ∧ w.cell? ⟨b, o + k * 4, none⟩ = some (.int .i64 r.fl) ∧ w.cell? ⟨b, o + k * 4 + 1, none⟩ = some (.int .i64 r.nm) ∧ w.cell? ⟨b, o + k * 4 + 2, none⟩ = some (.int .i64 r.sp) ∧
   w.cell? ⟨b, o + k * 4 + 3, none⟩ = some (.slice Ai r.ifs.length ci) ∧ IRow B w (.slice Ai r.ifs.length ci) r.ifs := by
 obtain ⟨xs, hl, hr, A', cap', e, _, _, _, h2⟩ := h.ex
 injection e with e1 e2 e3
 subst e1
 have hlt : k < rs.length := (List.getElem?_eq_some_iff.1 hk).1
 obtain ⟨b, o, e, hb, hc⟩ := h2 (by omega)
 obtain ⟨x, hx⟩ : ∃ x, xs[k]? = some x := ⟨_, List.getElem?_eq_getElem (by omega)⟩
 have hrow := hr k r x hk hx
 obtain ⟨Ai, ci, rfl, _⟩ := id hrow
 have key : ∀ j u, j < 4 → (rwcells r (.slice Ai r.ifs.length ci))[j]? = some u → w.cell? ⟨b, o + k * 4 + j, none⟩ = some u := fun j u hj hu => by
  rw [Nat.add_assoc]
  exact hc _ _ ((zip_flat hk hx j hj).trans hu)
 exact ⟨b, o, Ai, ci, e, hb, key 0 _ (by omega) rfl, key 1 _ (by omega) rfl, key 2 _ (by omega) rfl, key 3 _ (by omega) rfl, hrow⟩
/-- A file that the call owns, as file makes it. -/
def FileOwn (w : World) (base : Nat) (x : Value) (f : Fl) : Prop :=
 ∃ vp vi, x = .agg #[vp, .int .i64 f.fl, .int .i64 f.this, .int .i64 f.super, vi, .slice none 0 0, .slice none 0 0] ∧ w.ownsRow base 138 6 vp f.pool.length (f.pool.flatMap ccells) ∧ w.ownsRow base 3 1 vi f.ifs.length (iccells f.ifs) ∧ f.fds = [] ∧ f.mts = []
theorem FileOwn.at_ {w : World} {base : Nat} {x : Value} {f : Fl} (h : FileOwn w base x f) : FileAt w.heap.size w x f := by
 obtain ⟨vp, vi, rfl, h1, h2, h3, h4⟩ := h
 obtain ⟨ap, cp, rfl⟩ := hown_form h1
 obtain ⟨ai, ci, rfl⟩ := hown_form h2
 refine ⟨ap, cp, ai, ci, none, 0, none, 0, by rw [h3, h4]; rfl, ⟨Row.hof_own h1, Row.hof_own h2, ?_, ?_⟩⟩
 ·rw [h3]; exact ⟨[], rfl, by simp, Row.nil⟩
 ·rw [h4]; exact ⟨[], rfl, by simp, Row.nil⟩
theorem FileOwn.grown {w w' : World} {base base2 : Nat} {x v : Value} {f : Fl} {e : TypeId} {size n : Nat} {xs : List Value} (h : FileOwn w base x f) (h2 : w.ownsRow base2 e size v n xs) (h138 : e ≠ 138) (h3 : e ≠ 3) (hg : w.grownBy w' v.ownBlock) : FileOwn w' base x f := by
 obtain ⟨vp, vi, e1, p, q, r⟩ := h
 exact ⟨vp, vi, e1, own_grown_ty p h2 h138 hg, own_grown_ty q h2 h3 hg, r⟩
theorem FileOwn.below {w w' : World} {base : Nat} {x : Value} {f : Fl} (h : FileOwn w base x f) (hb : Below w.heap.size w w') : FileOwn w' base x f := by
 obtain ⟨vp, vi, e1, p, q, r⟩ := h
 exact ⟨vp, vi, e1, hown_below p hb, hown_below q hb, r⟩
/-- A row of files that the call owns. -/
def OwnFs (w : World) (base : Nat) (v : Value) (fs : List Fl) : Prop :=
 ∃ vs : List Value, vs.length = fs.length ∧ (∀ (i : Nat) (f : Fl) (x : Value), fs[i]? = some f → vs[i]? = some x → FileOwn w base x f) ∧ w.ownsRow base 94 7 v fs.length (vs.flatMap aggs)
theorem OwnFs.nil (w : World) (base : Nat) : OwnFs w base (.slice none 0 0) [] := ⟨[], rfl, by simp, World.ownsRow_nil _ _ _ _⟩
theorem OwnFs.row {w : World} {base : Nat} {v : Value} {fs : List Fl} (h : OwnFs w base v fs) : FsRow w.heap.size w v fs := by
 obtain ⟨vs, h1, h2, h3⟩ := h
 exact ⟨vs, h1, fun i f x a b => (h2 i f x a b).at_, Row.hof_own h3⟩
theorem OwnFs.below {w w' : World} {base : Nat} {v : Value} {fs : List Fl} (h : OwnFs w base v fs) (hb : Below w.heap.size w w') : OwnFs w' base v fs := by
 obtain ⟨vs, h1, h2, h3⟩ := h
 exact ⟨vs, h1, fun i f x a b => (h2 i f x a b).below hb, hown_below h3 hb⟩
theorem OwnFs.grown {w w' : World} {base base2 : Nat} {v u : Value} {fs : List Fl} {e : TypeId} {size n : Nat} {xs : List Value} (h : OwnFs w base v fs) (h2 : w.ownsRow base2 e size u n xs) (h94 : e ≠ 94) (h138 : e ≠ 138) (h3 : e ≠ 3) (hg : w.grownBy w' u.ownBlock) : OwnFs w' base v fs := by
 obtain ⟨vs, p, q, r⟩ := h
 exact ⟨vs, p, fun i f x a b => (q i f x a b).grown h2 h138 h3 hg, own_grown_ty r h2 h94 hg⟩
/-- One more behind all others. -/
theorem OwnFs.snoc {w w' : World} {base : Nat} {v v' : Value} {fs : List Fl} {vs : List Value} (h1 : vs.length = fs.length) (h2 : ∀ (i : Nat) (f : Fl) (x : Value), fs[i]? = some f → vs[i]? = some x → FileOwn w base x f) (h3 : w.ownsRow base 94 7 v fs.length (vs.flatMap aggs)) {f : Fl} {x : Value} (hx : FileOwn w base x f)
  (hg : w.grownBy w' v.ownBlock) (own' : w'.ownsRow base 94 7 v' (fs.length + 1) (vs.flatMap aggs ++ aggs x)) : OwnFs w' base v' (fs ++ [f]) := by
 refine ⟨vs ++ [x], by simp [h1], fun i g y hi hy => ?_, ?_⟩
 ·by_cases hlt : i < fs.length
  ·rw [List.getElem?_append_left hlt] at hi
   rw [List.getElem?_append_left (by omega)] at hy
   exact (h2 i g y hi hy).grown h3 (by decide) (by decide) hg
  ·have hi' := (List.getElem?_eq_some_iff.1 hi).1
   simp at hi'
   have e : i = fs.length := by omega
   subst e
   rw [List.getElem?_append_right (Nat.le_refl _)] at hi
   rw [List.getElem?_append_right (by omega), h1] at hy
   simp at hi hy
   subst hi; subst hy
   exact hx.grown h3 (by decide) (by decide) hg
 ·rw [List.flatMap_append, List.length_append]
  simpa using own'
theorem fileR_own {w w0 : World} {base : Nat} {fl : Int} {r : Rw} (hfl : fl = flR r.fl) {vp vi : Value} (h1 : w.ownsRow base 138 6 vp (4 + 2 * (ifnR r).length) ((poolR (nmR r.nm) (nmR r.sp) (ifnR r)).flatMap ccells)) (h2 : w.ownsRow base 3 1 vi (ifnR r).length (iccells (ifsR (ifnR r).length))) :
  FileOwn w base (.agg #[vp, .int .i64 fl, .int .i64 2, .int .i64 4, vi, .slice none 0 0, .slice none 0 0]) (fileR r) := by
 refine ⟨vp, vi, by rw [hfl]; rfl, ?_, ?_, rfl, rfl⟩
 ·show w.ownsRow base 138 6 vp (poolR (nmR r.nm) (nmR r.sp) (ifnR r)).length _
  rw [poolR_len]
  exact h1
 ·have e : (fileR r).ifs = ifsR (ifnR r).length := rfl
  rw [e, show (ifsR (ifnR r).length).length = (ifnR r).length by simp [ifsR]]
  exact h2
end Go.Proofs.YtmaknddlgppinaaGreatDoor
