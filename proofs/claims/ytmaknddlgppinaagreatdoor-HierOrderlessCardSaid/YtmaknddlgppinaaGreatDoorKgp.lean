/-
  Laws of Lub, as the walks want them; the walk of classes.
-/
import Derived.Test.YtmaknddlgppinaaGreatDoorX30
import Derived.Deep.QuietTactic
set_option linter.unusedVariables false
set_option linter.unusedSimpArgs false
namespace Go.Proofs.YtmaknddlgppinaaGreatDoor
open Go.RowKit

theorem neq31 (d d' : Int) (s s' : ByteArray) (w : World) : (binOp .neq 31 (.agg #[.int .i64 d, .string s]) (.agg #[.int .i64 d', .string s'])).run Tryz.prog w = .ok (.bool (!decide (d = d' ∧ s = s'))) w := by
  have h : (Op.equal 31 (.agg #[.int .i64 d, .string s]) (.agg #[.int .i64 d', .string s'])).run Tryz.prog w = .ok (decide (d = d' ∧ s = s')) w := eq31 d d' s s' w
  simp only [binOp]
  simp [h]
/-- What Lub answers. -/
structure LubIs (cs : List PC) (a b : TY) (d : Int) (s : ByteArray) (ok : Bool) : Prop where
  hok : ok = true ↔ LubOk cs a b
  heq : ok = true → (d, s.data.toList) = lubT cs a b
  hno : ok = false → d = 0 ∧ s = ⟨#[]⟩
  hsz : s.size ≤ 1000000
theorem LubOk.symm {cs : List PC} {a b : TY} (h : LubOk cs a b) : LubOk cs b a := ⟨h.2.1, h.1, h.2.2.2, h.2.2.1⟩
theorem pair_eq {d d' : Int} {s s' : ByteArray} {t : TY} (h : (d, s.data.toList) = t) (h' : (d', s'.data.toList) = t) : d = d' ∧ s = s' := by
  rw [← h'] at h
  injection h with h1 h2
  exact ⟨h1, bytes_eq h2⟩
theorem LubIs.comm {cs : List PC} (G : Good cs) {a b : TY} {d d' : Int} {s s' : ByteArray} {ok ok' : Bool} (h : LubIs cs a b d s ok) (h' : LubIs cs b a d' s' ok') : d = d' ∧ s = s' ∧ ok = ok' := by
  have e : ok = ok' := by
    rw [Bool.eq_iff_iff, h.hok, h'.hok]
    exact ⟨LubOk.symm, LubOk.symm⟩
  subst e
  cases ok with
  | false =>
    have h1 := h.hno rfl
    have h2 := h'.hno rfl
    exact ⟨h1.1.trans h2.1.symm, h1.2.trans h2.2.symm, rfl⟩
  | true =>
    have h1 := h.heq rfl
    have h2 := h'.heq rfl
    rw [← lubT_comm G (h.hok.1 rfl)] at h2
    have := pair_eq h1 h2
    exact ⟨this.1, this.2, rfl⟩
theorem LubIs.assoc {cs : List PC} (G : Good cs) {a b c x w : TY} {dx dw dv du : Int} {sx sw sv su : ByteArray} {three : Bool} (h : LubIs cs a b dx sx true) (h2 : LubIs cs b c dw sw true) (hx : x = (dx, sx.data.toList)) (hw : w = (dw, sw.data.toList)) (h3 : LubIs cs x c dv sv true) (h4 : LubIs cs a w du su three) : dv = du ∧ sv = su ∧ three = true := by
  have e1 : x = lubT cs a b := hx.trans (h.heq rfl)
  have e2 : w = lubT cs b c := hw.trans (h2.heq rfl)
  have k1 := h.hok.1 rfl
  have k2 := h2.hok.1 rfl
  have k3 := lubT_ok G k1 k2
  have t : three = true := h4.hok.2 (by rw [e2]; exact k3.2)
  subst t
  have q1 := h3.heq rfl
  have q2 := h4.heq rfl
  rw [e1, lubT_assoc G k1 k2] at q1
  rw [e2] at q2
  have := pair_eq q1 q2
  exact ⟨this.1, this.2, rfl⟩
theorem LubIs.above {cs : List PC} (G : Good cs) {a b : TY} {d : Int} {s : ByteArray} (h : LubIs cs a b d s true) : SubT cs a (d, s.data.toList) ∧ SubT cs b (d, s.data.toList) := by
  rw [h.heq rfl]
  exact sub_lub G (h.hok.1 rfl)
theorem LubIs.least {cs : List PC} (G : Good cs) {a b c : TY} {d : Int} {s : ByteArray} {k : Nat} (h : LubIs cs a b d s true) (ha : a.1 = 0) (hb : b.1 = 0) (hc : c.1 = 0) (hk : ix cs c.2 = some k) (hj : isJ cs k = false) (h1 : SubT cs a c) (h2 : SubT cs b c) : SubT cs (d, s.data.toList) c := by
  rw [h.heq rfl]
  obtain ⟨a1, a2⟩ := a
  obtain ⟨b1, b2⟩ := b
  obtain ⟨c1, c2⟩ := c
  simp only at ha hb hc
  subst ha; subst hb; subst hc
  have key : ∀ x : List UInt8, hasT cs (0, x) → (0, x) ≠ intT → ∃ i, ix cs x = some i := by
    intro x hx hn
    rcases hx.2.2 with e | e
    · exact absurd (by show ((0 : Int), x) = (0, []); rw [show x = [] from e]) hn
    · cases hi : ix cs x with
      | none => exact absurd hi e
      | some i => exact ⟨i, rfl⟩
  have hok := h.hok.1 rfl
  obtain ⟨i, hi⟩ := key _ hok.1 hok.2.2.1
  obtain ⟨j, hj2⟩ := key _ hok.2.1 hok.2.2.2
  exact lub_least G hi hj2 hk hj h1 h2
theorem sub_self {cs : List PC} (G : Good cs) {a : TY} : SubT cs a a ↔ hasT cs a := ⟨fun h => h.1, sub_eq G⟩
theorem types_dims {l : List Int} {k : Nat} {t : Int × ByteArray} (h : (typesR l)[k]? = some t) : 0 ≤ t.1 ∧ t.1 ≤ 4 := by
  unfold typesR at h
  rw [List.getElem?_map] at h
  cases hx : (l.take 12)[k]? with
  | none => rw [hx] at h; cases h
  | some c =>
    rw [hx] at h
    cases h
    have := pickN_lt c (n := 40) (by decide)
    show 0 ≤ ((pickN c 40 / 13 : Nat) : Int) ∧ ((pickN c 40 / 13 : Nat) : Int) ≤ 4
    omega
section
variable {B tb mb cap ow : Nat} {A : Option Addr} {cs : List PC} {cl sl : Nat → Nat} {S : Nat → List Nat} {w : World}
theorem lub_is_any {da db : Int} {sa sb : ByteArray} {w : World} (h : HT B tb mb A cap ow cs cl sl S w) (hsa : sa.size ≤ 1000000) (hsb : sb.size ≤ 1000000) :
    Calls Tryz.prog 21 #[.pointer (some ⟨tb, 0, none⟩), .agg #[.int .i64 da, .string sa], .agg #[.int .i64 db, .string sb]] w fun e w' => ∃ d s ok, e = .returned (.tuple #[.agg #[.int .i64 d, .string s], .bool ok]) ∧ LubIs cs (da, sa.data.toList) (db, sb.data.toList) d s ok ∧ Below w.heap.size w w' := by
  refine (Lub_any h hsa hsb).mono ?_
  rintro e w' ⟨d, s, ok, he, h1, h2, h3, h4, h5⟩
  exact ⟨d, s, ok, he, ⟨h1, h2, h3, h4⟩, h5⟩
set_option maxRecDepth 1000000 in
set_option maxHeartbeats 1600000 in
theorem classes_any {da db : Int} {sa sb : ByteArray} (h : HT B tb mb A cap ow cs cl sl S w) (hsa : sa.size ≤ 1000000) (hsb : sb.size ≤ 1000000) :
    Calls Tryz.prog 26 #[.pointer (some ⟨tb, 0, none⟩), .agg #[.int .i64 da, .string sa], .agg #[.int .i64 db, .string sb]] w fun e w' => (∃ r : Bool, e = .returned (.bool r)) ∧ Below w.heap.size w w' := by
  have T := Lib.hid (Two.start w da db sa sb)
  have H := Lib.hid h
  clear h
  have b0 := T.out.b1
  have a1 := T.out.a1
  go_enter Tryz.func26, Tryz.ntmps26
  go_wp2_with fail
  refine (Find_any (H.out.below (T.out.below.mono H.out.hB)) sa hsa).mono ?_
  rintro e w1 ⟨ha, b1⟩
  have B1 := Lib.hid (T.out.below.trans (b1.mono T.out.below.size))
  have b0' := (b1.cell (p := ⟨w.heap.size + 1, 1, none⟩) (by simp)).trans b0
  have hsz : w.heap.size + 1 < w1.heap.size := Nat.lt_of_lt_of_le (by simp) b1.size
  clear b0 a1 b1
  have key : ∃ n5 n6 vi b3 b4 b5 i6, ∃ r : Bool, e = .returned (.tuple #[.agg #[.string n5, .string n6, vi, .bool b3, .bool b4, .bool b5, .int .i64 i6], .bool r]) ∧ ∃ ai li ci, vi = .slice ai li ci := by
    rcases ha with ⟨_, rfl⟩ | ⟨i2, c2, k2, ifn2, _, _, _, hr, rfl⟩
    · exact ⟨_, _, _, _, _, _, _, _, rfl, _, _, _, rfl⟩
    · obtain ⟨ai2, ci2, e2, _, _⟩ := hr.length
      exact ⟨_, _, _, _, _, _, _, _, rfl, _, _, _, e2⟩
  clear ha
  obtain ⟨n5, n6, vi, b3, b4, b5, i6, r, rfl, ai, li, ci, rfl⟩ := key
  go_wp2_with fail
  refine (Find_any (H.out.below ((B1.out.alloc B1.out.size _).mono H.out.hB)) sb hsb).mono ?_
  rintro e w2 ⟨ha, b2⟩
  have key : ∃ n5 n6 vi b3 b4 b5 i6, ∃ r : Bool, e = .returned (.tuple #[.agg #[.string n5, .string n6, vi, .bool b3, .bool b4, .bool b5, .int .i64 i6], .bool r]) ∧ ∃ ai li ci, vi = .slice ai li ci := by
    rcases ha with ⟨_, rfl⟩ | ⟨i2, c2, k2, ifn2, _, _, _, hr, rfl⟩
    · exact ⟨_, _, _, _, _, _, _, _, rfl, _, _, _, rfl⟩
    · obtain ⟨ai2, ci2, e2, _, _⟩ := hr.length
      exact ⟨_, _, _, _, _, _, _, _, rfl, _, _, _, e2⟩
  clear ha
  obtain ⟨m5, m6, vj, c3, c4, c5, j6, r2, rfl, aj, lj, cj, rfl⟩ := key
  have hbx : w2.heap[w1.heap.size]? = some (.cells #[.string n5, .string n6, .slice ai li ci, .bool b3, .bool b4, .bool b5, .int .i64 i6] 47 (0, 0)) := (b2.block _ (by simp)).trans (hheap_new _ _)
  have hbl := lt_of_block hbx
  have c3x : w2.cell? ⟨w1.heap.size, 3, none⟩ = some (.bool b3) := kcells_of hbx 3
  have B2 := Lib.hid ((B1.out.alloc B1.out.size (.cells #[.string n5, .string n6, .slice ai li ci, .bool b3, .bool b4, .bool b5, .int .i64 i6] 47)).trans (b2.mono (B1.out.alloc B1.out.size _).size))
  clear hbx b2 b0'
  cases b3 with
  | false =>
    go_wp2
    go_ret
    exact ⟨⟨_, rfl⟩, B2.out.alloc B2.out.size _⟩
  | true =>
    go_wp2
    go_ret
    exact ⟨⟨_, rfl⟩, B2.out.alloc B2.out.size _⟩
end
end Go.Proofs.YtmaknddlgppinaaGreatDoor
