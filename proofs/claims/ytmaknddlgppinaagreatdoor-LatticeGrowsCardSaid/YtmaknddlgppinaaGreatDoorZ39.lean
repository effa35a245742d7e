/-
  CUT and joined from the texts of this seat: R8
-/
import Derived.Test.YtmaknddlgppinaaGreatDoorZ25
import Derived.Deep.AppendSrc
set_option linter.unusedVariables false
set_option linter.unusedSimpArgs false
namespace Go.Proofs.YtmaknddlgppinaaGreatDoor
open Go.RowKit
theorem bcells_length (a : List UInt8) : (bcells a).length = a.length := by simp [bcells]
/-- The slice value v owns the bytes l; its row may bear the mark that '[]byte(s)' leaves behind its last cell. -/
def OwnM (w : World) (base : Nat) (v : Value) (l : List UInt8) : Prop :=
 ∃ (g cap : Nat) (cur : Array Value) (fz : Nat × Nat), v = .slice (some ⟨g, 0, none⟩) l.length cap ∧ base ≤ g ∧ w.heap[g]? = some (.cells cur 5 fz) ∧ (fz.2 = 0 ∨ cur.size ≤ fz.1) ∧ l.length ≤ cap ∧ cap ≤ maxLen ∧ cur.size = cap ∧ ∀ (j : Nat) (u : Value), (bcells l)[j]? = some u → cur[j]? = some u
theorem OwnM.below {w w' : World} {base : Nat} {v : Value} {l : List UInt8} (h : OwnM w base v l) (hb : Below w.heap.size w w') : OwnM w' base v l := by
 obtain ⟨g, cap, cur, fz, h1, h2, h3, h4⟩ := h
 exact ⟨g, cap, cur, fz, h1, h2, (hb.block g (lt_of_block h3)).trans h3, h4⟩
theorem OwnM.alloc {w : World} {base : Nat} {v : Value} {l : List UInt8} (h : OwnM w base v l) (o : Obj) : OwnM (w.alloc o) base v l := h.below ((Below.refl _ _).alloc (Nat.le_refl _) o)
theorem OwnM.drew {w : World} {base : Nat} {v : Value} {l : List UInt8} (h : OwnM w base v l) : OwnM w.drew base v l := h
theorem OwnM.slice {w : World} {base : Nat} {v : Value} {l : List UInt8} (h : OwnM w base v l) : ∃ a c, v = .slice a l.length c := by
 obtain ⟨g, cap, cur, fz, h1, _⟩ := h
 exact ⟨_, _, h1⟩
theorem frozen_mark {w : World} {g : Nat} {cur : Array Value} {t : TypeId} {fz : Nat × Nat} (h : w.heap[g]? = some (.cells cur t fz)) (hz : fz.2 = 0 ∨ cur.size ≤ fz.1) {j : Nat} (hj : j < cur.size) : w.frozen? ⟨g, j, none⟩ = false := by
 obtain ⟨a, b⟩ := fz
 simp only [World.frozen?, h]
 simp only at hz
 simp
 omega
theorem cell_mark {w : World} {g : Nat} {cur : Array Value} {t : TypeId} {fz : Nat × Nat} (h : w.heap[g]? = some (.cells cur t fz)) (j : Nat) : w.cell? ⟨g, j, none⟩ = cur[j]? := by
 simp [World.cell?, h]
/-- Cells set one by one are the row, rewritten. -/
theorem setCells_setRow (g : Nat) (t : TypeId) (fz : Nat × Nat) : ∀ (vs : List Value) (o : Nat) (cur : Array Value) (w : World), w.heap[g]? = some (.cells cur t fz) → vs ≠ [] → o + vs.length ≤ cur.size →
  ∃ cur', w.setCells g o vs = w.setRow g cur' ∧ cur'.size = cur.size ∧ ∀ j, cur'[j]? = if o ≤ j ∧ j < o + vs.length then vs[j - o]? else cur[j]?
 | [], _, _, _, _, hne, _ => absurd rfl hne
 | [v], o, cur, w, hg, _, hl => by
  refine ⟨cur.setIfInBounds o v, setCell_eq_setRow w g o cur t fz v hg, by simp, fun j => ?_⟩
  simp only [List.length_cons, List.length_nil] at hl ⊢
  rw [Array.getElem?_setIfInBounds]
  by_cases h : o = j
  ·subst h
   simp
   omega
  ·rw [if_neg h, if_neg (by omega)]
 | v :: u :: r, o, cur, w, hg, _, hl => by
  have h1 := setCell_eq_setRow w g o cur t fz v hg
  obtain ⟨cur', e, hs, hj⟩ := setCells_setRow g t fz (u :: r) (o + 1) (cur.setIfInBounds o v) (w.setRow g (cur.setIfInBounds o v)) (setRow_heap w g cur _ t fz hg) (by simp) (by simp at hl ⊢; omega)
  refine ⟨cur', ?_, by rw [hs]; simp, fun j => ?_⟩
  ·rw [World.setCells, h1, e, setRow_setRow]
  ·rw [hj]
   simp only [List.length_cons] at hl ⊢
   by_cases h : o + 1 ≤ j ∧ j < o + 1 + (r.length + 1)
   ·rw [if_pos h, if_pos (by omega), show j - o = (j - (o + 1)) + 1 by omega, List.getElem?_cons_succ]
   ·rw [if_neg h, Array.getElem?_setIfInBounds]
    by_cases h2 : o = j
    ·subst h2
     rw [if_pos rfl, if_pos (by omega), if_pos (by omega)]
     simp
    ·rw [if_neg h2, if_neg (by omega)]
theorem bcells_at_left {l m : List UInt8} {j : Nat} {u : Value} (h : (bcells (l ++ m))[j]? = some u) (hj : j < l.length) : (bcells l)[j]? = some u := by
 rw [bcells_append, List.getElem?_append_left (by rw [bcells_length]; exact hj)] at h
 exact h
theorem bcells_at_right {l m : List UInt8} {j : Nat} {u : Value} (h : (bcells (l ++ m))[j]? = some u) (hj : l.length ≤ j) : (bcells m)[j - l.length]? = some u := by
 rw [bcells_append, List.getElem?_append_right (by rw [bcells_length]; exact hj), bcells_length] at h
 exact h
/-- What is appended is laid behind the bytes that there are. -/
theorem run_append_M (tx ty : TypeId) {w : World} {base : Nat} {v : Value} {l : List UInt8} (h : OwnM w base v l) (x : Value) (m : List UInt8) (hs : Src Tryz.prog 1 tx x m.length (bcells m) w) (hl : l.length + m.length ≤ 1000000000) (hb : base ≤ w.heap.size) :
  ∃ v' w', (Builtin.append_ #[166, tx] ty #[v, x]).run Tryz.prog w = .ok v' w' ∧ OwnM w' base v' (l ++ m) ∧ Kept base w w' := by
 obtain ⟨i0, hi, hz0, hz1, hz2⟩ := info_parts Tryz.info5
 obtain ⟨g, cap, cur, fz, rfl, hbg, hg, hfz, hlc, hcm, hcs, hcur⟩ := h
 have hs' : Src Tryz.prog i0.size tx x m.length (bcells m) w := by rw [hz1]; exact hs
 by_cases hroom : l.length + m.length ≤ cap
 ·have hr := run_append_room_src (P := Tryz.prog) w 166 tx ty 5 i0 Tryz.underlying166 hi g 0 l.length cap x m.length (bcells m) hs' hroom
   (fun j hj => by
    rw [bcells_length] at hj
    rw [hz1, cell_mark hg, Array.getElem?_eq_getElem (by omega)]
    rfl)
   (fun j hj => by
    rw [bcells_length] at hj
    exact frozen_mark hg hfz (by rw [hz1]; omega))
  rw [hz1, Nat.zero_add, Nat.mul_one] at hr
  by_cases hm : m = []
  ·subst hm
   refine ⟨_, _, hr, ?_, Kept.refl _ _⟩
   simp only [List.append_nil]
   exact ⟨g, cap, cur, fz, rfl, hbg, hg, hfz, hlc, hcm, hcs, hcur⟩
  ·obtain ⟨cur', e, hs1, hj1⟩ := setCells_setRow g 5 fz (bcells m) l.length cur w hg (by unfold bcells; simpa using hm) (by rw [bcells_length]; omega)
   rw [e] at hr
   refine ⟨_, _, hr, ⟨g, cap, cur', fz, by rw [List.length_append], hbg, setRow_heap w g cur cur' 5 fz hg, by rw [hs1]; exact hfz, by rw [List.length_append]; exact hroom, hcm, by rw [hs1]; exact hcs, fun j u hu => ?_⟩, ⟨⟨rfl, rfl, rfl, by simp, fun k hk => setRow_other w g k cur' (by omega)⟩, fun k cs t mk ht hk => ?_⟩⟩
   ·rw [hj1, bcells_length]
    have hjl : j < (l ++ m).length := by rw [← bcells_length (l ++ m)]; exact (List.getElem?_eq_some_iff.1 hu).1
    rw [List.length_append] at hjl
    by_cases hjl2 : l.length ≤ j
    ·rw [if_pos ⟨hjl2, hjl⟩]
     exact bcells_at_right hu hjl2
    ·rw [if_neg (by omega)]
     exact hcur j u (bcells_at_left hu (by omega))
   ·refine (setRow_other w g k cur' (fun e => ?_)).trans hk
    subst e
    rw [hg] at hk
    simp only [Option.some.injEq, Obj.cells.injEq] at hk
    exact ht hk.2.1.symm
 ·have hold : (Builtin.firstCells i0.size l.length (.slice (some ⟨g, 0, none⟩) l.length cap)).run Tryz.prog w.drew = .ok (bcells l).toArray w.drew :=
   run_firstCells_some (P := Tryz.prog) w.drew i0.size l.length ⟨g, 0, none⟩ l.length cap (bcells l) (by rw [bcells_length, hz1, Nat.mul_one]) (fun j u hu => by
    rw [plain_add, Nat.zero_add]
    exact (cell_mark (w := w.drew) hg j).trans (hcur j u hu))
  have hmx : maxLen = 9223372036854775807 := by unfold maxLen; rfl
  have hr := run_append_grow_src (P := Tryz.prog) w 166 tx ty 5 i0 (.int .u8 0) Tryz.underlying166 hi hz0 (some ⟨g, 0, none⟩) l.length cap (bcells l) hold x m.length (bcells m) hs' (by omega) (by omega)
   (by rw [hz2]; exact growslice_fits (by omega) (by omega))
  have hge := grownCap_ge w (l.length + m.length) cap 5
  have hcm2 : grownCap w (l.length + m.length) cap 5 ≤ maxLen := grownCap_le_maxLen w (l.length + m.length) cap 5 (by omega)
  have hz1' : (Value.int IntKind.u8 0).cells.size = 1 := rfl
  refine ⟨_, _, hr, ⟨w.heap.size, _, _, (0, 0), by rw [List.length_append], hb, heap_alloc_new w.drew _, .inl rfl, by rw [List.length_append]; exact hge, hcm2, ?_, fun j u hu => ?_⟩, Kept.of_below ((Below.refl w.heap.size w).drew.alloc (Nat.le_refl _) _) hb⟩
  ·simp only [Array.size_append, List.size_toArray, List.length_append, bcells_length, size_zeroCells, hz1']
   omega
  ·have hjl : j < (bcells (l ++ m)).length := (List.getElem?_eq_some_iff.1 hu).1
   rw [Array.getElem?_append_left (by rw [List.size_toArray, ← bcells_append]; exact hjl), List.getElem?_toArray, ← bcells_append]
   exact hu
theorem wpList_append_M {ops : Array Oper} {rest : List Oper} {o : Oper} {a : Act} {Q : Exit → Act → World → Prop} {w : World} (hgd : o.guard = none) (s x : Operand) (tx : TypeId)
  (ho : o.op = .call { callee := .builtin .append, args := #[s, x], argTypes := #[166, tx] }) {base : Nat} {v : Value} {l : List UInt8} (hs : a.eval s = v) (h : OwnM w base v l) (xv : Value) (hx : a.eval x = xv) (m : List UInt8)
  (hsrc : Src Tryz.prog 1 tx xv m.length (bcells m) w) (hl : l.length + m.length ≤ 1000000000) (hb : base ≤ w.heap.size)
  (hK : ∀ v' w', OwnM w' base v' (l ++ m) → Kept base w w' → wpList Tryz.prog ops Q rest (a.put o.dst v') w') : wpList Tryz.prog ops Q (o :: rest) a w := by
 refine wpList_plain hgd fun K hK' => ?_
 obtain ⟨v', w', hr, h2, h3⟩ := run_append_M tx o.type h xv m hsrc hl hb
 unfold Oper.wp execOp
 simp only [ho, resolve, invoke, builtin, Sem.run_bind, Sem.run_pure, Result.andThen_ok, List.map_toArray, List.map_cons, List.map_nil, hs, hx, hr]
 exact hK' _ _ (hK v' w' h2 h3)
theorem srcS (w : World) (s : ByteArray) : Src Tryz.prog 1 9 (.string s) (L s).length (bcells (L s)) w := by
 have h := Src.ofString (P := Tryz.prog) w (tx := 9) Tryz.underlying9 s
 rw [← size_L]
 exact h
theorem src1 {w : World} {b c : Nat} {z : Int} {y : UInt8} (hy : (y.toNat : Int) = z) (h : w.cell? ⟨b, 0, none⟩ = some (.int .u8 z)) : Src Tryz.prog 1 166 (.slice (some ⟨b, 0, none⟩) 1 c) [y].length (bcells [y]) w := by
 refine Src.ofSlice (P := Tryz.prog) w (e' := 5) Tryz.underlying166 ⟨b, 0, none⟩ 1 c (bcells [y]) (by rw [bcells_length]; rfl) (fun j u hu => ?_) (fun u hu => ?_)
 ·have hj : j < 1 := by have := (List.getElem?_eq_some_iff.1 hu).1; rw [bcells_length] at this; exact this
  obtain rfl : j = 0 := by omega
  rw [plain_add]
  simp only [bcells, List.map_cons, List.map_nil, List.getElem?_cons_zero, Option.some.injEq] at hu
  rw [← hu, hy]
  exact h
 ·simp only [bcells, List.map_cons, List.map_nil, List.mem_singleton] at hu
  rw [hu]
  rfl
/-- What '[]byte(s)' lays is owned so. -/
theorem ownM_bytes (w : World) (s : ByteArray) (base : Nat) (hb : base ≤ w.heap.size) (hs : s.size ≤ 1000000000) :
  OwnM (w.drew.alloc (.cells (bytesRow s (grownCap w s.size 0 5)) 5 ((bytesRow s (grownCap w s.size 0 5)).size, (bytesRow s (grownCap w s.size 0 5)).size + 1))) base (.slice (some ⟨w.heap.size, 0, none⟩) s.size (grownCap w s.size 0 5)) (L s) := by
 have hge := grownCap_ge w s.size 0 5
 have hmx : maxLen = 9223372036854775807 := by unfold maxLen; rfl
 have hcm : grownCap w s.size 0 5 ≤ maxLen := grownCap_le_maxLen w s.size 0 5 (by omega)
 have hsz : (bytesRow s (grownCap w s.size 0 5)).size = grownCap w s.size 0 5 := by
  have : s.data.size = s.size := rfl
  simp only [bytesRow, Array.size_append, Array.size_map, Array.size_replicate]
  omega
 refine ⟨w.heap.size, _, _, _, by rw [← size_L], hb, heap_alloc_new w.drew _, .inr (Nat.le_refl _), by rw [← size_L]; exact hge, hcm, hsz, fun j u hu => ?_⟩
 have hj : j < (L s).length := by rw [← bcells_length]; exact (List.getElem?_eq_some_iff.1 hu).1
 rw [← size_L] at hj
 unfold bytesRow
 rw [Array.getElem?_append_left (by rw [Array.size_map]; exact hj)]
 rw [Array.getElem?_map]
 have e : (bcells (L s))[j]? = (s.data[j]?).map fun b => Value.int .u8 b.toNat := by
  unfold bcells L
  rw [List.getElem?_map, Array.getElem?_toList]
 rw [← e]
 exact hu
theorem string_M {w : World} {base : Nat} {v : Value} {l : List UInt8} (h : OwnM w base v l) : (convert 166 9 v).run Tryz.prog w = .ok (.string ⟨l.toArray⟩) w := by
 obtain ⟨g, cap, cur, fz, rfl, hbg, hg, hfz, hlc, hcm, hcs, hcur⟩ := h
 refine run_convert_bytes_back w 166 9 5 ⟨g, 0, none⟩ cap l Tryz.underlying166 Tryz.underlying5 Tryz.underlying9 (fun j hj => ?_)
 rw [plain_add, Nat.zero_add, cell_mark hg]
 refine hcur j _ ?_
 unfold bcells
 rw [List.getElem?_map, List.getElem?_eq_getElem hj]
 rfl
theorem L_mkB (l : List UInt8) : L (mkB l) = l := by unfold L mkB; simp
theorem wp_append_M {o : Oper} {a : Act} {K : Act → World → Prop} {Q : Exit → Act → World → Prop} {w : World} (s x : Operand) (tx : TypeId)
  (ho : o.op = .call { callee := .builtin .append, args := #[s, x], argTypes := #[166, tx] }) {base : Nat} {v : Value} {l : List UInt8} (hs : a.eval s = v) (h : OwnM w base v l) (xv : Value) (hx : a.eval x = xv) (m : List UInt8)
  (hsrc : Src Tryz.prog 1 tx xv m.length (bcells m) w) (hl : l.length + m.length ≤ 1000000000) (hb : base ≤ w.heap.size)
  (hK : ∀ v' w', OwnM w' base v' (l ++ m) → Kept base w w' → K (a.put o.dst v') w') : o.wp Tryz.prog a w K Q := by
 obtain ⟨v', w', hr, h2, h3⟩ := run_append_M tx o.type h xv m hsrc hl hb
 unfold Oper.wp execOp
 simp only [ho, resolve, invoke, builtin, Sem.run_bind, Sem.run_pure, Result.andThen_ok, List.map_toArray, List.map_cons, List.map_nil, hs, hx, hr]
 exact hK v' w' h2 h3
theorem L_append (s t : ByteArray) : L (s ++ t) = L s ++ L t := by
 unfold L
 rw [ByteArray.data_append, Array.toList_append]
theorem owned_new (w : World) (cs : List Value) (l : List UInt8) (n : Nat) (hc : bcells l = cs) (hn : l.length = n) (hm : n ≤ 1000) : (w.alloc (.cells cs.toArray 5)).ownsRow w.heap.size 5 1 (.slice (some ⟨w.heap.size, 0, none⟩) n n) l.length (bcells l) := by
 subst hn
 refine ⟨by rw [bcells_length, Nat.mul_one], .inr ⟨w.heap.size, l.length, cs.toArray, rfl, Nat.le_refl _, heap_alloc_new w _, Nat.le_refl _, by unfold maxLen; omega, ?_, ?_⟩⟩
 ·rw [List.size_toArray, ← hc, bcells_length, Nat.mul_one]
 ·rw [List.toList_toArray, ← hc, Nat.mul_one, List.take_of_length_le (by rw [bcells_length]; exact Nat.le_refl _)]
set_option maxRecDepth 1000000 in
set_option maxHeartbeats 6400000 in
theorem one_any (n : Int) (w : World) :
  Calls Tryz.prog 131 #[.int .i64 n] w fun e w' => e = .returned (.string (mkB (beN 1 n))) ∧ Below w.heap.size w w' := by
 have hcv : (convert 166 9 (.slice (some ⟨w.heap.size, 0, none⟩) 1 1)).run Tryz.prog (w.alloc (.cells #[.int .u8 (n % 256)] 5)) = .ok (.string (mkB (beN 1 n))) (w.alloc (.cells #[.int .u8 (n % 256)] 5)) :=
  string_owned (owned_new w [.int .u8 (n % 256)] (beN 1 n) 1 (by rw [beN, beN]; exact byteAt_val n 0 _ (by omega)) rfl (by omega))
 have BE := Lib.hid ((Below.refl w.heap.size w).alloc (Nat.le_refl _) (.cells #[.int .u8 (n % 256)] 5))
 generalize mkB (beN 1 n) = S at *
 go_enter Tryz.func131, Tryz.ntmps131
 go_wp2
 go_ret
 exact ⟨rfl, BE.out⟩
set_option maxRecDepth 1000000 in
set_option maxHeartbeats 6400000 in
theorem two_any (n : Int) (hn : 0 ≤ n ∧ n ≤ 9223372036854775807) (w : World) :
  Calls Tryz.prog 129 #[.int .i64 n] w fun e w' => e = .returned (.string (mkB (beN 2 n))) ∧ Below w.heap.size w w' := by
 have hcv : (convert 166 9 (.slice (some ⟨w.heap.size, 0, none⟩) 2 2)).run Tryz.prog (w.alloc (.cells #[.int .u8 (n / 256 % 256), .int .u8 (n % 256)] 5)) = .ok (.string (mkB (beN 2 n))) (w.alloc (.cells #[.int .u8 (n / 256 % 256), .int .u8 (n % 256)] 5)) :=
  string_owned (owned_new w [.int .u8 (n / 256 % 256), .int .u8 (n % 256)] (beN 2 n) 2 (by
   have h1 := byteAt_val n 1 (n / 256 % 256) (by omega)
   have h0 := byteAt_val n 0 (n % 256) (by omega)
   rw [beN, beN, beN, show [byteAt n 1, byteAt n 0] = [byteAt n 1] ++ [byteAt n 0] from rfl, bcells_append, h1, h0]
   rfl) rfl (by omega))
 have BE := Lib.hid ((Below.refl w.heap.size w).alloc (Nat.le_refl _) (.cells #[.int .u8 (n / 256 % 256), .int .u8 (n % 256)] 5))
 generalize mkB (beN 2 n) = S at *
 have hd : wrap64 (n.tdiv 256) = n / 256 := by rw [Int.tdiv_eq_ediv_of_nonneg hn.1]; (unfold wrap64; omega)
 go_enter Tryz.func129, Tryz.ntmps129
 go_wp2
 go_ret
 exact ⟨rfl, BE.out⟩
theorem tagged_pos {p : List Cn} {i t : Int} (hp : p.length ≤ 2000) (h : tagged p i t = true) : 0 ≤ i ∧ i ≤ 1000000 := by
 obtain ⟨k, c, rfl, _, _, _⟩ := tagged_some h
 omega
theorem linkB_nonneg {p : List Cn} {i t : Int} (hp : p.length ≤ 2000) (h : linkB p i t = true) : 0 ≤ i ∧ i ≤ 1000000 := by
 unfold linkB at h
 split at h
 ·have := of_decide_eq_true h; omega
 ·exact tagged_pos hp h
theorem noneB_nonneg {p : List Cn} {i : Int} (hp : p.length ≤ 2000) (h : noneB p i = true) : 0 ≤ i ∧ i ≤ 1000000 := by
 unfold noneB at h
 rw [Bool.or_eq_true] at h
 rcases h with h | h
 ·have := of_decide_eq_true h; omega
 ·exact tagged_pos hp h
/-- The numbers of a right constant. -/
theorem constE_nums {p : List Cn} {c : Cn} (hp : p.length ≤ 2000) (h : constE p c = 0) : 1 ≤ c.tag ∧ c.tag ≤ 7 ∧ (0 ≤ c.a ∧ c.a ≤ 1000000) ∧ (0 ≤ c.b ∧ c.b ≤ 1000000) ∧ (0 ≤ c.c ∧ c.c ≤ 1000000) := by
 unfold constE at h
 split at h
 ·rename_i h1
  split at h
  ·rename_i h2
   unfold rightTagB at h1
   unfold linksB at h2
   simp only [Bool.and_eq_true, decide_eq_true_eq] at h1 h2
   exact ⟨h1.1.2, h1.2, linkB_nonneg hp h2.1, linkB_nonneg hp h2.2.1, linkB_nonneg hp h2.2.2⟩
  ·cases h
 ·cases h
theorem classE_nums {f : Fl} (hp : f.pool.length ≤ 2000) (h : classE f = 0) : (0 ≤ f.this ∧ f.this ≤ 1000000) ∧ (0 ≤ f.super ∧ f.super ≤ 1000000) ∧ ∀ i ∈ f.ifs, (0 ≤ i ∧ i ≤ 1000000) := by
 unfold classE at h
 split at h
 ·split at h
  ·rename_i h1
   split at h
   ·rename_i h2
    split at h
    ·cases h
    ·split at h
     ·rename_i h3
      rw [List.all_eq_true] at h3
      exact ⟨tagged_pos hp h1, noneB_nonneg hp h2, fun i hi => tagged_pos hp (h3 i hi)⟩
     ·cases h
   ·cases h
  ·cases h
 ·cases h
theorem hdE_nums {p : List Cn} {ffl last : Int} {E : ByteArray → Int} {m : Mb} (hp : p.length ≤ 2000) (h : hdE p ffl last E m = 0) : (0 ≤ m.nm ∧ m.nm ≤ 1000000) ∧ (0 ≤ m.ds ∧ m.ds ≤ 1000000) := by
 unfold hdE at h
 split at h
 ·cases h
 ·split at h
  ·rename_i h1
   exact ⟨tagged_pos hp h1.1, tagged_pos hp h1.2⟩
  ·cases h
theorem bodyE_nums {p : List Cn} {m : Mb} (hp : p.length ≤ 2000) (h : bodyE p m = 0) (h2 : m.fl ≠ 2) : ∀ x ∈ m.hs, (0 ≤ x.fr ∧ x.fr ≤ 1000000) ∧ (0 ≤ x.to ∧ x.to ≤ 1000000) ∧ (0 ≤ x.at_ ∧ x.at_ ≤ 1000000) ∧ (0 ≤ x.cl ∧ x.cl ≤ 1000000) := by
 intro x hx
 unfold bodyE at h
 rw [if_neg h2] at h
 repeat' split at h
 all_goals first
  | cases h; done
  | skip
 have := firstErr_zero h x hx
 unfold hdlE at this
 split at this
 ·cases this
 ·rename_i h1
  split at this
  ·rename_i h3
   have := noneB_nonneg hp h3
   omega
  ·cases this
theorem fine_nums {f : Fl} (h : FineF f) : (∀ c ∈ f.pool, 1 ≤ c.tag ∧ c.tag ≤ 7 ∧ (0 ≤ c.a ∧ c.a ≤ 1000000) ∧ (0 ≤ c.b ∧ c.b ≤ 1000000) ∧ (0 ≤ c.c ∧ c.c ≤ 1000000)) ∧ (∀ m ∈ f.fds, (0 ≤ m.nm ∧ m.nm ≤ 1000000) ∧ (0 ≤ m.ds ∧ m.ds ≤ 1000000)) ∧ (∀ m ∈ f.mts, (0 ≤ m.nm ∧ m.nm ≤ 1000000) ∧ (0 ≤ m.ds ∧ m.ds ≤ 1000000) ∧ (m.fl ≠ 2 → ∀ x ∈ m.hs, (0 ≤ x.fr ∧ x.fr ≤ 1000000) ∧ (0 ≤ x.to ∧ x.to ≤ 1000000) ∧ (0 ≤ x.at_ ∧ x.at_ ≤ 1000000) ∧ (0 ≤ x.cl ∧ x.cl ≤ 1000000))) := by
 refine ⟨fun c hc => ?_, fun m hm => ?_, fun m hm => ?_⟩
 ·have := h.pools
  unfold poolE at this
  rw [if_neg (by have := h.pool; omega)] at this
  exact constE_nums h.pool (firstErr_zero this c hc)
 ·exact hdE_nums h.pool ((memsE_zero h.fds).2 m hm _ (List.mem_cons_self ..))
 ·have hz := (memsE_zero h.mts).2 m hm
  obtain ⟨a, b⟩ := hdE_nums h.pool (hz _ (List.mem_cons_self ..))
  exact ⟨a, b, fun h2 => bodyE_nums h.pool (hz (bodyE f.pool) (by simp)) h2⟩
end Go.Proofs.YtmaknddlgppinaaGreatDoor
