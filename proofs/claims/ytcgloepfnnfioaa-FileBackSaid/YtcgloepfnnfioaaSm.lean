/-
  WALKS of sameMembers and SameFile.
-/
import Derived.Test.YtcgloepfnnfioaaE5
import Derived.Test.YtcgloepfnnfioaaS2
import Derived.Laws.StructEq
set_option linter.unusedVariables false
set_option linter.unusedSimpArgs false
namespace Go.Proofs.Ytcgloepfnnfioaa
open Go.RowKit

def hdB (x y : Hd) : Bool := x.fr == y.fr && (x.to == y.to && (x.at_ == y.at_ && x.cl == y.cl))
def cnB (x y : Cn) : Bool := x.tag == y.tag && (x.text.toList == y.text.toList && (x.n == y.n && (x.a == y.a && (x.b == y.b && x.c == y.c))))
theorem hdB_iff (x y : Hd) : hdB x y = true ↔ x = y := by
  obtain ⟨a, b, c, d⟩ := x
  obtain ⟨a', b', c', d'⟩ := y
  unfold hdB
  simp only [Bool.and_eq_true, beq_iff_eq, Hd.mk.injEq]
theorem cnB_iff (x y : Cn) : cnB x y = true ↔ x = y := by
  obtain ⟨a, b, c, d, e, f⟩ := x
  obtain ⟨a', b', c', d', e', f'⟩ := y
  unfold cnB
  simp only
  rw [str_beq]
  simp only [Bool.and_eq_true, beq_iff_eq, decide_eq_true_eq, Cn.mk.injEq]
theorem eq76 (x y : Hd) (w : World) : (Op.equalIn 10000 76 (.agg #[.int .i64 x.fr, .int .i64 x.to, .int .i64 x.at_, .int .i64 x.cl]) (.agg #[.int .i64 y.fr, .int .i64 y.to, .int .i64 y.at_, .int .i64 y.cl])).run Try.prog w = .ok (hdB x y) w := by
  obtain ⟨a, b, c, d⟩ := x
  obtain ⟨a', b', c', d'⟩ := y
  unfold hdB
  have u3 := Try.underlying3
  have a3 := Try.isAgg3
  have z3 := Try.sizeOf3
  have hS : Try.prog.underlying 76 = some (.struct (Try.prog.fieldsOf 76)) := by kernel_rfl
  rw [show (10000 : Nat) = 9999 + 1 from rfl, run_equalIn_agg w 9999 76 _ _ hS (by kernel_rfl)]
  simp only [Program.fieldsOf, Try.underlying76]
  go_simp
  by_cases h1 : a = a' <;> by_cases h2 : b = b' <;> by_cases h3 : c = c' <;> by_cases h4 : d = d' <;> simp [h1, h2, h3, h4]
theorem eq47 (x y : Cn) (w : World) : (Op.equalIn 10000 47 (.agg #[.int .i64 x.tag, .string x.text, .int .i64 x.n, .int .i64 x.a, .int .i64 x.b, .int .i64 x.c]) (.agg #[.int .i64 y.tag, .string y.text, .int .i64 y.n, .int .i64 y.a, .int .i64 y.b, .int .i64 y.c])).run Try.prog w = .ok (cnB x y) w := by
  obtain ⟨a, b, c, d, e, f⟩ := x
  obtain ⟨a', b', c', d', e', f'⟩ := y
  unfold cnB
  have u3 := Try.underlying3
  have a3 := Try.isAgg3
  have z3 := Try.sizeOf3
  have u9 := Try.underlying9
  have a9 := Try.isAgg9
  have z9 := Try.sizeOf9
  have hS : Try.prog.underlying 47 = some (.struct (Try.prog.fieldsOf 47)) := by kernel_rfl
  rw [show (10000 : Nat) = 9999 + 1 from rfl, run_equalIn_agg w 9999 47 _ _ hS (by kernel_rfl)]
  simp only [Program.fieldsOf, Try.underlying47]
  go_simp
  by_cases h1 : a = a' <;> by_cases h2 : b.toList = b'.toList <;> by_cases h3 : c = c' <;> by_cases h4 : d = d' <;> by_cases h5 : e = e' <;> by_cases h6 : f = f' <;> simp [h1, h2, h3, h4, h5, h6]
theorem belowDN {B : Nat} {a w : World} (h : Below B a w) (n : Nat) : Below B a (w.drewN n) := ⟨h.os, h.tape, h.output, h.size, h.block⟩
theorem take_next {α : Type} {l m : List α} {k : Nat} {x : α} (hx : l[k]? = some x) (hy : m[k]? = some x) (h : l.take k = m.take k) : l.take (k + 1) = m.take (k + 1) := by
  obtain ⟨h1, rfl⟩ := List.getElem?_eq_some_iff.1 hx
  obtain ⟨h2, h3⟩ := List.getElem?_eq_some_iff.1 hy
  rw [List.take_succ_eq_append_getElem h1, List.take_succ_eq_append_getElem h2, h, h3]
theorem take_all {α : Type} {l m : List α} (hl : l.length = m.length) (h : l.take l.length = m.take l.length) : l = m := by
  rw [List.take_length, hl, List.take_length] at h
  exact h
theorem ne_at {α : Type} {l m : List α} {k : Nat} {x y : α} (hx : l[k]? = some x) (hy : m[k]? = some y) (h : x ≠ y) : l ≠ m := fun e => by
  subst e
  rw [hx] at hy
  exact h (Option.some.inj hy)
theorem memb_ne {x y : Mb} (h : x.fl ≠ y.fl ∨ x.nm ≠ y.nm ∨ x.ds ≠ y.ds ∨ x.ms ≠ y.ms ∨ x.ml ≠ y.ml ∨ x.code ≠ y.code ∨ x.hs ≠ y.hs) : x ≠ y := fun e => by
  subst e
  simp at h
set_option maxRecDepth 1000000 in
set_option maxHeartbeats 6400000 in
theorem sameMembers_any {B : Nat} (ms ns : List Mb) (A A2 : Option Addr) (cap cap2 : Nat) (w : World) (h : MRow B w (.slice A ms.length cap) ms) (h2 : MRow B w (.slice A2 ns.length cap2) ns) (hB : B ≤ w.heap.size) :
    Calls Try.prog 36 #[.slice A ms.length cap, .slice A2 ns.length cap2] w fun e w' => ∃ r, e = .returned (.bool r) ∧ (r = true ↔ ms = ns) ∧ Below w.heap.size w w' := by
  have hml : ms.length ≤ maxLen := by obtain ⟨_, _, _, _, _, e, _, h, _⟩ := h; exact h
  unfold maxLen at hml
  have HM := Lib.hid h
  have HN := Lib.hid h2
  clear h h2
  by_cases hl : ms.length = ns.length
  · have HL := Lib.hid hl
    rw [← hl] at HN
    rw [← hl]
    clear hl
    obtain ⟨n, hn⟩ : ∃ n, ms.length = n := ⟨_, rfl⟩
    have HNN := Lib.hid hn
    rw [hn] at HM HN hml
    rw [hn]
    clear hn
    go_enter Try.func36, Try.ntmps36
    go_wp2
    go_loopg [5] n (fun g iv wx => ∃ k : Nat, iv = .int .i64 k ∧ k + g = n ∧ ms.take k = ns.take k ∧ Below w.heap.size w wx)
    case atStart => exact ⟨0, rfl, by omega, rfl, Below.refl _ _⟩
    case round =>
      obtain ⟨k, rfl, hkg, htk, hb⟩ := hrel
      have hsz := hb.size
      have HT := Lib.hid htk
      have BB0 := Lib.hid hb
      have MX := Lib.hid (HM.out.keep fun p hp => hb.cell (p := p) (by omega))
      have NX := Lib.hid (HN.out.keep fun p hp => hb.cell (p := p) (by omega))
      clear htk hb
      by_cases hk : k < n
      · have hgg : gk - 1 < gk := by omega
        have hkn : (k : Int) < (n : Int) := by omega
        obtain ⟨x, hx⟩ : ∃ x, ms[k]? = some x := ⟨_, List.getElem?_eq_getElem (by rw [HNN.out]; exact hk)⟩
        obtain ⟨y, hy⟩ : ∃ y, ns[k]? = some y := ⟨_, List.getElem?_eq_getElem (by rw [← HL.out, HNN.out]; exact hk)⟩
        obtain ⟨b, o, ax, cx, rfl, hbB, hrx, x0, x1, x2, x3, x4, x5, x6⟩ := MX.out.at_ hx
        obtain ⟨b2, o2, ay, cy, rfl, hbB2, hry, y0, y1, y2, y3, y4, y5, y6⟩ := NX.out.at_ hy
        have HX := Lib.hid hx
        have HY := Lib.hid hy
        have RX := Lib.hid hrx
        have RY := Lib.hid hry
        have lb1 : b < wr.heap.size := by omega
        have lb2 : b2 < wr.heap.size := by omega
        have BX := Lib.hid (heap_alloc_lt (o := (.cells #[.int .i64 y.fl, .int .i64 y.nm, .int .i64 y.ds, .int .i64 y.ms, .int .i64 y.ml, .string y.code, .slice ay y.hs.length cy] 38)) (heap_new wr (.cells #[.int .i64 x.fl, .int .i64 x.nm, .int .i64 x.ds, .int .i64 x.ms, .int .i64 x.ml, .string x.code, .slice ax x.hs.length cx] 38)))
        have BY := Lib.hid (heap_new2 wr (.cells #[.int .i64 x.fl, .int .i64 x.nm, .int .i64 x.ds, .int .i64 x.ms, .int .i64 x.ml, .string x.code, .slice ax x.hs.length cx] 38) (.cells #[.int .i64 y.fl, .int .i64 y.nm, .int .i64 y.ds, .int .i64 y.ms, .int .i64 y.ml, .string y.code, .slice ay y.hs.length cy] 38))
        have BB := Lib.hid ((BB0.out.alloc hsz (.cells #[.int .i64 x.fl, .int .i64 x.nm, .int .i64 x.ds, .int .i64 x.ms, .int .i64 x.ml, .string x.code, .slice ax x.hs.length cx] 38)).alloc (by simp; omega) (.cells #[.int .i64 y.fl, .int .i64 y.nm, .int .i64 y.ds, .int .i64 y.ms, .int .i64 y.ml, .string y.code, .slice ay y.hs.length cy] 38))
        have RX2 := Lib.hid (show HRow B ((wr.alloc (.cells #[.int .i64 x.fl, .int .i64 x.nm, .int .i64 x.ds, .int .i64 x.ms, .int .i64 x.ml, .string x.code, .slice ax x.hs.length cx] 38)).alloc (.cells #[.int .i64 y.fl, .int .i64 y.nm, .int .i64 y.ds, .int .i64 y.ms, .int .i64 y.ml, .string y.code, .slice ay y.hs.length cy] 38)) (.slice ax x.hs.length cx) x.hs from Row.keep hrx fun p hp => (World.cell?_alloc_lt _ _ p (by simp; omega)).trans (World.cell?_alloc_lt wr _ p (by omega)))
        have RY2 := Lib.hid (show HRow B ((wr.alloc (.cells #[.int .i64 x.fl, .int .i64 x.nm, .int .i64 x.ds, .int .i64 x.ms, .int .i64 x.ml, .string x.code, .slice ax x.hs.length cx] 38)).alloc (.cells #[.int .i64 y.fl, .int .i64 y.nm, .int .i64 y.ds, .int .i64 y.ms, .int .i64 y.ml, .string y.code, .slice ay y.hs.length cy] 38)) (.slice ay y.hs.length cy) y.hs from Row.keep hry fun p hp => (World.cell?_alloc_lt _ _ p (by simp; omega)).trans (World.cell?_alloc_lt wr _ p (by omega)))
        have hxl : x.hs.length ≤ maxLen := by obtain ⟨_, _, e, _, h, _⟩ := hrx; exact h
        have hyl : y.hs.length ≤ maxLen := by obtain ⟨_, _, e, _, h, _⟩ := hry; exact h
        unfold maxLen at hxl hyl
        clear hx hy hrx hry
        rcases Classical.em (x.fl = y.fl) with e0 | e0
        rotate_left
        · have k0 : (x.fl == y.fl) = false := by simpa using e0
          have l0 : (x.fl != y.fl) = true := by simpa using e0
          have NE := Lib.hid (ne_at HX.out HY.out (memb_ne (.inl e0)))
          clear e0
          go_wp2
          go_ret
          exact ⟨false, rfl, by simp; exact NE.out, BB.out⟩
        rcases Classical.em (x.nm = y.nm) with e1 | e1
        rotate_left
        · have k0 : (x.fl == y.fl) = true := by rw [e0]; simp
          have l0 : (x.fl != y.fl) = false := by rw [e0]; simp
          have k1 : (x.nm == y.nm) = false := by simpa using e1
          have l1 : (x.nm != y.nm) = true := by simpa using e1
          have NE := Lib.hid (ne_at HX.out HY.out (memb_ne (.inr (.inl e1))))
          clear e0 e1
          go_wp2
          go_ret
          exact ⟨false, rfl, by simp; exact NE.out, BB.out⟩
        rcases Classical.em (x.ds = y.ds) with e2 | e2
        rotate_left
        · have k0 : (x.fl == y.fl) = true := by rw [e0]; simp
          have l0 : (x.fl != y.fl) = false := by rw [e0]; simp
          have k1 : (x.nm == y.nm) = true := by rw [e1]; simp
          have l1 : (x.nm != y.nm) = false := by rw [e1]; simp
          have k2 : (x.ds == y.ds) = false := by simpa using e2
          have l2 : (x.ds != y.ds) = true := by simpa using e2
          have NE := Lib.hid (ne_at HX.out HY.out (memb_ne (.inr (.inr (.inl e2)))))
          clear e0 e1 e2
          go_wp2
          go_ret
          exact ⟨false, rfl, by simp; exact NE.out, BB.out⟩
        rcases Classical.em (x.ms = y.ms) with e3 | e3
        rotate_left
        · have k0 : (x.fl == y.fl) = true := by rw [e0]; simp
          have l0 : (x.fl != y.fl) = false := by rw [e0]; simp
          have k1 : (x.nm == y.nm) = true := by rw [e1]; simp
          have l1 : (x.nm != y.nm) = false := by rw [e1]; simp
          have k2 : (x.ds == y.ds) = true := by rw [e2]; simp
          have l2 : (x.ds != y.ds) = false := by rw [e2]; simp
          have k3 : (x.ms == y.ms) = false := by simpa using e3
          have l3 : (x.ms != y.ms) = true := by simpa using e3
          have NE := Lib.hid (ne_at HX.out HY.out (memb_ne (.inr (.inr (.inr (.inl e3))))))
          clear e0 e1 e2 e3
          go_wp2
          go_ret
          exact ⟨false, rfl, by simp; exact NE.out, BB.out⟩
        rcases Classical.em (x.ml = y.ml) with e4 | e4
        rotate_left
        · have k0 : (x.fl == y.fl) = true := by rw [e0]; simp
          have l0 : (x.fl != y.fl) = false := by rw [e0]; simp
          have k1 : (x.nm == y.nm) = true := by rw [e1]; simp
          have l1 : (x.nm != y.nm) = false := by rw [e1]; simp
          have k2 : (x.ds == y.ds) = true := by rw [e2]; simp
          have l2 : (x.ds != y.ds) = false := by rw [e2]; simp
          have k3 : (x.ms == y.ms) = true := by rw [e3]; simp
          have l3 : (x.ms != y.ms) = false := by rw [e3]; simp
          have k4 : (x.ml == y.ml) = false := by simpa using e4
          have l4 : (x.ml != y.ml) = true := by simpa using e4
          have NE := Lib.hid (ne_at HX.out HY.out (memb_ne (.inr (.inr (.inr (.inr (.inl e4)))))))
          clear e0 e1 e2 e3 e4
          go_wp2
          go_ret
          exact ⟨false, rfl, by simp; exact NE.out, BB.out⟩
        rcases Classical.em (x.code = y.code) with e5 | e5
        rotate_left
        · have k0 : (x.fl == y.fl) = true := by rw [e0]; simp
          have l0 : (x.fl != y.fl) = false := by rw [e0]; simp
          have k1 : (x.nm == y.nm) = true := by rw [e1]; simp
          have l1 : (x.nm != y.nm) = false := by rw [e1]; simp
          have k2 : (x.ds == y.ds) = true := by rw [e2]; simp
          have l2 : (x.ds != y.ds) = false := by rw [e2]; simp
          have k3 : (x.ms == y.ms) = true := by rw [e3]; simp
          have l3 : (x.ms != y.ms) = false := by rw [e3]; simp
          have k4 : (x.ml == y.ml) = true := by rw [e4]; simp
          have l4 : (x.ml != y.ml) = false := by rw [e4]; simp
          have k5 : (x.code.toList == y.code.toList) = false := by rw [str_beq]; exact decide_eq_false e5
          have l5 : (x.code.toList != y.code.toList) = true := by show (!(x.code.toList == y.code.toList)) = true; rw [k5]; rfl
          have NE := Lib.hid (ne_at HX.out HY.out (memb_ne (.inr (.inr (.inr (.inr (.inr (.inl e5))))))))
          clear e0 e1 e2 e3 e4 e5
          go_wp2
          go_ret
          exact ⟨false, rfl, by simp; exact NE.out, BB.out⟩
        rcases Classical.em (x.hs.length = y.hs.length) with e6 | e6
        rotate_left
        · have k0 : (x.fl == y.fl) = true := by rw [e0]; simp
          have l0 : (x.fl != y.fl) = false := by rw [e0]; simp
          have k1 : (x.nm == y.nm) = true := by rw [e1]; simp
          have l1 : (x.nm != y.nm) = false := by rw [e1]; simp
          have k2 : (x.ds == y.ds) = true := by rw [e2]; simp
          have l2 : (x.ds != y.ds) = false := by rw [e2]; simp
          have k3 : (x.ms == y.ms) = true := by rw [e3]; simp
          have l3 : (x.ms != y.ms) = false := by rw [e3]; simp
          have k4 : (x.ml == y.ml) = true := by rw [e4]; simp
          have l4 : (x.ml != y.ml) = false := by rw [e4]; simp
          have k5 : (x.code.toList == y.code.toList) = true := by rw [e5]; simp
          have l5 : (x.code.toList != y.code.toList) = false := by rw [e5]; simp
          have k6 : ((x.hs.length : Int) == (y.hs.length : Int)) = false := by rw [beq_eq_false_iff_ne]; omega
          have l6 : ((x.hs.length : Int) != (y.hs.length : Int)) = true := by rw [bne, k6]; rfl
          have NE := Lib.hid (ne_at HX.out HY.out (memb_ne (.inr (.inr (.inr (.inr (.inr (.inr (fun h => e6 (by rw [h]))))))))))
          clear e0 e1 e2 e3 e4 e5 e6
          go_wp2
          go_ret
          exact ⟨false, rfl, by simp; exact NE.out, BB.out⟩
        have k0 : (x.fl == y.fl) = true := by rw [e0]; simp
        have l0 : (x.fl != y.fl) = false := by rw [e0]; simp
        have k1 : (x.nm == y.nm) = true := by rw [e1]; simp
        have l1 : (x.nm != y.nm) = false := by rw [e1]; simp
        have k2 : (x.ds == y.ds) = true := by rw [e2]; simp
        have l2 : (x.ds != y.ds) = false := by rw [e2]; simp
        have k3 : (x.ms == y.ms) = true := by rw [e3]; simp
        have l3 : (x.ms != y.ms) = false := by rw [e3]; simp
        have k4 : (x.ml == y.ml) = true := by rw [e4]; simp
        have l4 : (x.ml != y.ml) = false := by rw [e4]; simp
        have k5 : (x.code.toList == y.code.toList) = true := by rw [e5]; simp
        have l5 : (x.code.toList != y.code.toList) = false := by rw [e5]; simp
        have HE6 := Lib.hid e6
        obtain ⟨m, hm⟩ : ∃ m, x.hs.length = m := ⟨_, rfl⟩
        have HMM := Lib.hid hm
        have hm2 : y.hs.length = m := by rw [← e6]; exact hm
        have HEQ := Lib.hid (show x.hs = y.hs → x = y from fun h => by
          obtain ⟨z0, z1, z2, z3, z4, z5, z6⟩ := x
          obtain ⟨u0, u1, u2, u3, u4, u5, u6⟩ := y
          simp only at e0 e1 e2 e3 e4 e5 h
          subst e0 e1 e2 e3 e4 e5 h
          rfl)
        clear e0 e1 e2 e3 e4 e5 e6
        rw [hm, hm2] at BX BY BB RX2 RY2
        rw [hm] at hxl
        rw [hm] at x6
        rw [hm2] at y6
        clear hm
        clear hm2
        go_wp2
        obtain ⟨wo, hwo⟩ : ∃ wo, (wr.alloc (.cells #[.int .i64 x.fl, .int .i64 x.nm, .int .i64 x.ds, .int .i64 x.ms, .int .i64 x.ml, .string x.code, .slice ax m cx] 38)).alloc (.cells #[.int .i64 y.fl, .int .i64 y.nm, .int .i64 y.ds, .int .i64 y.ms, .int .i64 y.ml, .string y.code, .slice ay m cy] 38) = wo := ⟨_, rfl⟩
        rw [hwo] at BX BY BB RX2 RY2
        rw [hwo]
        have hwsz : wo.heap.size = wr.heap.size + 2 := by rw [← hwo]; simp
        clear hwo
        obtain ⟨g1, hg1⟩ : ∃ g, g = gk := ⟨_, rfl⟩
        subst hg1
        obtain ⟨b1, hb1⟩ : ∃ b1, b1 = wr.heap.size := ⟨_, rfl⟩
        rw [← hb1] at BX BY
        rw [← hb1]
        have hBo : B ≤ wo.heap.size := Nat.le_trans hB BB.out.size
        clear hb1 hwsz
        go_loopg [8] m (fun g iv wx => ∃ j : Nat, iv = .int .i64 j ∧ j + g = m ∧ x.hs.take j = y.hs.take j ∧ Below wo.heap.size wo wx)
        case atStart => exact ⟨0, rfl, by omega, rfl, Below.refl _ _⟩
        case round =>
          obtain ⟨j, rfl, hjg, htj, hb⟩ := hrel
          have HJ := Lib.hid htj
          have HB3 := Lib.hid hb
          have BX3 := Lib.hid (Below.keep hb (lt_of_block BX.out) BX.out)
          have BY3 := Lib.hid (Below.keep hb (lt_of_block BY.out) BY.out)
          have BB3 := Lib.hid (BB.out.trans (hb.mono BB.out.size))
          have hsz3 := hb.size
          have p6 : wr.cell? ⟨b1, 6, none⟩ = some (.slice ax m cx) := cells_of BX3.out 6
          have q6 : wr.cell? ⟨b1 + 1, 6, none⟩ = some (.slice ay m cy) := cells_of BY3.out 6
          have ltp := lt_of_block BX3.out
          have ltq := lt_of_block BY3.out
          by_cases hj : j < m
          · have hjm : (j : Int) < (m : Int) := by omega
            have hg3 : gk - 1 < gk := by omega
            obtain ⟨u, hu⟩ : ∃ u, x.hs[j]? = some u := ⟨_, List.getElem?_eq_getElem (by rw [HMM.out]; exact hj)⟩
            obtain ⟨v, hv⟩ : ∃ v, y.hs[j]? = some v := ⟨_, List.getElem?_eq_getElem (by rw [← HE6.out, HMM.out]; exact hj)⟩
            have rx3 : HRow B wr (.slice ax m cx) x.hs := Row.keep RX2.out fun p hp => hb.cell (p := p) (by omega)
            have ry3 : HRow B wr (.slice ay m cy) y.hs := Row.keep RY2.out fun p hp => hb.cell (p := p) (by omega)
            obtain ⟨d1, o1, rfl, hd1, u0, u1, u2, u3⟩ := rx3.at_ hu
            obtain ⟨d2, o3, rfl, hd2, v0, v1, v2, v3⟩ := ry3.at_ hv
            have ld1 : d1 < wr.heap.size := by omega
            have ld2 : d2 < wr.heap.size := by omega
            have HU := Lib.hid hu
            have HV := Lib.hid hv
            clear hu hv rx3 ry3 htj hb
            by_cases huv : u = v
            · have hq : ∀ W, (Op.equalIn 10000 76 (.agg #[.int .i64 u.fr, .int .i64 u.to, .int .i64 u.at_, .int .i64 u.cl]) (.agg #[.int .i64 v.fr, .int .i64 v.to, .int .i64 v.at_, .int .i64 v.cl])).run Try.prog W = .ok true W := fun W => by rw [eq76, (hdB_iff u v).2 huv]
              have HUV := Lib.hid huv
              clear huv
              go_wp2
              go_quiet (fail)
              go_wp2
              go_roundg (gk - 1)
              case measure => exact hg3
              case rel => exact ⟨j + 1, by go_num, by omega, take_next HU.out (by rw [HUV.out]; exact HV.out) HJ.out, belowDN HB3.out _⟩
            · have hq : ∀ W, (Op.equalIn 10000 76 (.agg #[.int .i64 u.fr, .int .i64 u.to, .int .i64 u.at_, .int .i64 u.cl]) (.agg #[.int .i64 v.fr, .int .i64 v.to, .int .i64 v.at_, .int .i64 v.cl])).run Try.prog W = .ok false W := fun W => by rw [eq76, Bool.eq_false_iff.2 (fun h => huv ((hdB_iff u v).1 h))]
              have NE := Lib.hid (ne_at HX.out HY.out (memb_ne (.inr (.inr (.inr (.inr (.inr (.inr (ne_at HU.out HV.out huv)))))))))
              clear huv
              go_wp2
              go_quiet (fail)
              go_wp2
              go_ret
              exact ⟨false, rfl, by simp; exact NE.out, belowDN BB3.out _⟩
          · obtain rfl : j = m := by omega
            have HXY := Lib.hid (HEQ.out (take_all HE6.out (by rw [HMM.out]; exact HJ.out)))
            have hg4 : g1 - 1 < g1 := by omega
            clear htj hb
            go_wp2
            go_roundg (g1 - 1)
            case measure => exact hg4
            case rel => exact ⟨k + 1, by go_num, by omega, take_next HX.out (by rw [HXY.out]; exact HY.out) HT.out, BB3.out⟩
      · obtain rfl : k = n := by omega
        have HE := Lib.hid (take_all HL.out (by rw [HNN.out]; exact HT.out))
        go_wp2
        go_ret
        exact ⟨true, rfl, by simp; exact HE.out, BB0.out⟩
  · have k1 : ((ms.length : Int) == (ns.length : Int)) = false := by rw [beq_eq_false_iff_ne]; omega
    have k2 : ((ms.length : Int) != (ns.length : Int)) = true := by rw [bne, k1]; rfl
    have HL := Lib.hid (show ms ≠ ns from fun h => hl (by rw [h]))
    clear hl
    go_enter Try.func36, Try.ntmps36
    go_wp2
    go_ret
    exact ⟨false, rfl, by simp; exact HL.out, Below.refl _ _⟩
theorem fl_ne {f g : Fl} (h : f.fl ≠ g.fl ∨ f.this ≠ g.this ∨ f.super ≠ g.super ∨ f.pool ≠ g.pool ∨ f.ifs ≠ g.ifs ∨ f.fds ≠ g.fds ∨ f.mts ≠ g.mts) : f ≠ g := fun e => by
  subst e
  simp at h
theorem fl_eq {f g : Fl} (h1 : f.fl = g.fl) (h2 : f.this = g.this) (h3 : f.super = g.super) (h4 : f.pool = g.pool) (h5 : f.ifs = g.ifs) (h6 : f.fds = g.fds) (h7 : f.mts = g.mts) : f = g := by
  obtain ⟨a, b, c, d, e, i, j⟩ := f
  obtain ⟨a', b', c', d', e', i', j'⟩ := g
  simp only at h1 h2 h3 h4 h5 h6 h7
  subst h1 h2 h3 h4 h5 h6 h7
  rfl
set_option maxRecDepth 1000000 in
set_option maxHeartbeats 6400000 in
theorem SameFile_any {B : Nat} (f g : Fl) (v v2 : Value) (w : World) (h : FileAt B w v f) (h2 : FileAt B w v2 g) (hB : B ≤ w.heap.size) :
    Calls Try.prog 23 #[v, v2] w fun e w' => ∃ r, e = .returned (.bool r) ∧ (r = true ↔ f = g) ∧ Below w.heap.size w w' := by
  obtain ⟨Ap, cp, Ai, ci, Af, cf, Am, cm, rfl, hi⟩ := h
  obtain ⟨Ap2, cp2, Ai2, ci2, Af2, cf2, Am2, cm2, rfl, hi2⟩ := h2
  have hpl : f.pool.length ≤ maxLen := by obtain ⟨_, _, e, _, h, _⟩ := hi.pool; exact h
  have hil : f.ifs.length ≤ maxLen := by obtain ⟨_, _, e, _, h, _⟩ := hi.ifs; exact h
  have hpl2 : g.pool.length ≤ maxLen := by obtain ⟨_, _, e, _, h, _⟩ := hi2.pool; exact h
  have hil2 : g.ifs.length ≤ maxLen := by obtain ⟨_, _, e, _, h, _⟩ := hi2.ifs; exact h
  unfold maxLen at hpl hil hpl2 hil2
  have BX0 := Lib.hid (heap_alloc_lt (o := (.cells #[.slice Ap2 g.pool.length cp2, .int .i64 g.fl, .int .i64 g.this, .int .i64 g.super, .slice Ai2 g.ifs.length ci2, .slice Af2 g.fds.length cf2, .slice Am2 g.mts.length cm2] 26)) (heap_new w (.cells #[.slice Ap f.pool.length cp, .int .i64 f.fl, .int .i64 f.this, .int .i64 f.super, .slice Ai f.ifs.length ci, .slice Af f.fds.length cf, .slice Am f.mts.length cm] 26)))
  have BY0 := Lib.hid (heap_new2 w (.cells #[.slice Ap f.pool.length cp, .int .i64 f.fl, .int .i64 f.this, .int .i64 f.super, .slice Ai f.ifs.length ci, .slice Af f.fds.length cf, .slice Am f.mts.length cm] 26) (.cells #[.slice Ap2 g.pool.length cp2, .int .i64 g.fl, .int .i64 g.this, .int .i64 g.super, .slice Ai2 g.ifs.length ci2, .slice Af2 g.fds.length cf2, .slice Am2 g.mts.length cm2] 26))
  have BB0 := Lib.hid (((Below.refl w.heap.size w).alloc (Nat.le_refl _) (.cells #[.slice Ap f.pool.length cp, .int .i64 f.fl, .int .i64 f.this, .int .i64 f.super, .slice Ai f.ifs.length ci, .slice Af f.fds.length cf, .slice Am f.mts.length cm] 26)).alloc (by simp) (.cells #[.slice Ap2 g.pool.length cp2, .int .i64 g.fl, .int .i64 g.this, .int .i64 g.super, .slice Ai2 g.ifs.length ci2, .slice Af2 g.fds.length cf2, .slice Am2 g.mts.length cm2] 26))
  have IX0 := Lib.hid (show FileIs B ((w.alloc (.cells #[.slice Ap f.pool.length cp, .int .i64 f.fl, .int .i64 f.this, .int .i64 f.super, .slice Ai f.ifs.length ci, .slice Af f.fds.length cf, .slice Am f.mts.length cm] 26)).alloc (.cells #[.slice Ap2 g.pool.length cp2, .int .i64 g.fl, .int .i64 g.this, .int .i64 g.super, .slice Ai2 g.ifs.length ci2, .slice Af2 g.fds.length cf2, .slice Am2 g.mts.length cm2] 26)) Ap cp Ai ci Af cf Am cm f from hi.keep fun p hp => (World.cell?_alloc_lt _ _ p (by simp; omega)).trans (World.cell?_alloc_lt w _ p (by omega)))
  have IY0 := Lib.hid (show FileIs B ((w.alloc (.cells #[.slice Ap f.pool.length cp, .int .i64 f.fl, .int .i64 f.this, .int .i64 f.super, .slice Ai f.ifs.length ci, .slice Af f.fds.length cf, .slice Am f.mts.length cm] 26)).alloc (.cells #[.slice Ap2 g.pool.length cp2, .int .i64 g.fl, .int .i64 g.this, .int .i64 g.super, .slice Ai2 g.ifs.length ci2, .slice Af2 g.fds.length cf2, .slice Am2 g.mts.length cm2] 26)) Ap2 cp2 Ai2 ci2 Af2 cf2 Am2 cm2 g from hi2.keep fun p hp => (World.cell?_alloc_lt _ _ p (by simp; omega)).trans (World.cell?_alloc_lt w _ p (by omega)))
  clear hi hi2
  rcases Classical.em (f.fl = g.fl) with e0 | e0
  rotate_left
  · have NE := Lib.hid (fl_ne (f := f) (g := g) (.inl e0))
    have k0 : (f.fl == g.fl) = false := by rw [beq_eq_false_iff_ne]; omega
    have l0 : (f.fl != g.fl) = true := by rw [bne, k0]; rfl
    clear e0
    go_enter Try.func23, Try.ntmps23
    go_wp2
    go_ret
    exact ⟨false, rfl, by simp; exact NE.out, BB0.out⟩
  rcases Classical.em (f.this = g.this) with e1 | e1
  rotate_left
  · have NE := Lib.hid (fl_ne (f := f) (g := g) (.inr (.inl e1)))
    have k0 : (f.fl == g.fl) = true := by rw [e0]; simp
    have l0 : (f.fl != g.fl) = false := by rw [e0]; simp
    have k1 : (f.this == g.this) = false := by rw [beq_eq_false_iff_ne]; omega
    have l1 : (f.this != g.this) = true := by rw [bne, k1]; rfl
    clear e0 e1
    go_enter Try.func23, Try.ntmps23
    go_wp2
    go_ret
    exact ⟨false, rfl, by simp; exact NE.out, BB0.out⟩
  rcases Classical.em (f.super = g.super) with e2 | e2
  rotate_left
  · have NE := Lib.hid (fl_ne (f := f) (g := g) (.inr (.inr (.inl e2))))
    have k0 : (f.fl == g.fl) = true := by rw [e0]; simp
    have l0 : (f.fl != g.fl) = false := by rw [e0]; simp
    have k1 : (f.this == g.this) = true := by rw [e1]; simp
    have l1 : (f.this != g.this) = false := by rw [e1]; simp
    have k2 : (f.super == g.super) = false := by rw [beq_eq_false_iff_ne]; omega
    have l2 : (f.super != g.super) = true := by rw [bne, k2]; rfl
    clear e0 e1 e2
    go_enter Try.func23, Try.ntmps23
    go_wp2
    go_ret
    exact ⟨false, rfl, by simp; exact NE.out, BB0.out⟩
  rcases Classical.em (f.pool.length = g.pool.length) with e3 | e3
  rotate_left
  · have NE := Lib.hid (fl_ne (f := f) (g := g) (.inr (.inr (.inr (.inl fun h => e3 (by rw [h]))))))
    have k0 : (f.fl == g.fl) = true := by rw [e0]; simp
    have l0 : (f.fl != g.fl) = false := by rw [e0]; simp
    have k1 : (f.this == g.this) = true := by rw [e1]; simp
    have l1 : (f.this != g.this) = false := by rw [e1]; simp
    have k2 : (f.super == g.super) = true := by rw [e2]; simp
    have l2 : (f.super != g.super) = false := by rw [e2]; simp
    have k3 : ((f.pool.length : Int) == (g.pool.length : Int)) = false := by rw [beq_eq_false_iff_ne]; omega
    have l3 : ((f.pool.length : Int) != (g.pool.length : Int)) = true := by rw [bne, k3]; rfl
    clear e0 e1 e2 e3
    go_enter Try.func23, Try.ntmps23
    go_wp2
    go_ret
    exact ⟨false, rfl, by simp; exact NE.out, BB0.out⟩
  rcases Classical.em (f.ifs.length = g.ifs.length) with e4 | e4
  rotate_left
  · have NE := Lib.hid (fl_ne (f := f) (g := g) (.inr (.inr (.inr (.inr (.inl fun h => e4 (by rw [h])))))))
    have k0 : (f.fl == g.fl) = true := by rw [e0]; simp
    have l0 : (f.fl != g.fl) = false := by rw [e0]; simp
    have k1 : (f.this == g.this) = true := by rw [e1]; simp
    have l1 : (f.this != g.this) = false := by rw [e1]; simp
    have k2 : (f.super == g.super) = true := by rw [e2]; simp
    have l2 : (f.super != g.super) = false := by rw [e2]; simp
    have k3 : ((f.pool.length : Int) == (g.pool.length : Int)) = true := by rw [e3]; simp
    have l3 : ((f.pool.length : Int) != (g.pool.length : Int)) = false := by rw [e3]; simp
    have k4 : ((f.ifs.length : Int) == (g.ifs.length : Int)) = false := by rw [beq_eq_false_iff_ne]; omega
    have l4 : ((f.ifs.length : Int) != (g.ifs.length : Int)) = true := by rw [bne, k4]; rfl
    clear e0 e1 e2 e3 e4
    go_enter Try.func23, Try.ntmps23
    go_wp2
    go_ret
    exact ⟨false, rfl, by simp; exact NE.out, BB0.out⟩
  have k0 : (f.fl == g.fl) = true := by rw [e0]; simp
  have l0 : (f.fl != g.fl) = false := by rw [e0]; simp
  have k1 : (f.this == g.this) = true := by rw [e1]; simp
  have l1 : (f.this != g.this) = false := by rw [e1]; simp
  have k2 : (f.super == g.super) = true := by rw [e2]; simp
  have l2 : (f.super != g.super) = false := by rw [e2]; simp
  have k3 : ((f.pool.length : Int) == (g.pool.length : Int)) = true := by rw [e3]; simp
  have l3 : ((f.pool.length : Int) != (g.pool.length : Int)) = false := by rw [e3]; simp
  have k4 : ((f.ifs.length : Int) == (g.ifs.length : Int)) = true := by rw [e4]; simp
  have l4 : ((f.ifs.length : Int) != (g.ifs.length : Int)) = false := by rw [e4]; simp
  have HE0 := Lib.hid e0
  have HE1 := Lib.hid e1
  have HE2 := Lib.hid e2
  have HE3 := Lib.hid e3
  have HE4 := Lib.hid e4
  clear e0 e1 e2
  obtain ⟨n, hn⟩ : ∃ n, f.pool.length = n := ⟨_, rfl⟩
  obtain ⟨m, hm⟩ : ∃ m, f.ifs.length = m := ⟨_, rfl⟩
  have hn2 : g.pool.length = n := by rw [← e3]; exact hn
  have hm2 : g.ifs.length = m := by rw [← e4]; exact hm
  have HN := Lib.hid hn
  have HM := Lib.hid hm
  clear e3 e4
  rw [hn, hn2] at k3 l3
  rw [hm, hm2] at k4 l4
  rw [hn, hm, hn2, hm2] at BX0 BY0 BB0
  rw [hn, hm, hn2, hm2] at IX0 IY0
  rw [hn] at hpl
  rw [hm] at hil
  rw [hn, hm, hn2, hm2]
  clear hpl2 hil2 hn hm hn2 hm2
  go_enter Try.func23, Try.ntmps23
  go_wp2
  obtain ⟨wo, hwo⟩ : ∃ wo, (w.alloc (.cells #[.slice Ap n cp, .int .i64 f.fl, .int .i64 f.this, .int .i64 f.super, .slice Ai m ci, .slice Af f.fds.length cf, .slice Am f.mts.length cm] 26)).alloc (.cells #[.slice Ap2 n cp2, .int .i64 g.fl, .int .i64 g.this, .int .i64 g.super, .slice Ai2 m ci2, .slice Af2 g.fds.length cf2, .slice Am2 g.mts.length cm2] 26) = wo := ⟨_, rfl⟩
  rw [hwo] at BX0 BY0 BB0 IX0 IY0
  rw [hwo]
  clear hwo
  obtain ⟨b1, hb1⟩ : ∃ b1, b1 = w.heap.size := ⟨_, rfl⟩
  have hBo : B ≤ wo.heap.size := Nat.le_trans hB BB0.out.size
  have BB00 := Lib.hid BB0.out
  rw [← hb1] at BX0 BY0
  rw [← hb1]
  clear hb1
  go_loopg [5] n (fun gx iv wx => ∃ j : Nat, iv = .int .i64 j ∧ j + gx = n ∧ f.pool.take j = g.pool.take j ∧ Below wo.heap.size wo wx)
  case atStart => exact ⟨0, rfl, by omega, rfl, Below.refl _ _⟩
  case round =>
    obtain ⟨j, rfl, hjg, htj, hb⟩ := hrel
    have HJ := Lib.hid htj
    have HB3 := Lib.hid hb
    have BX3 := Lib.hid (Below.keep hb (lt_of_block BX0.out) BX0.out)
    have BY3 := Lib.hid (Below.keep hb (lt_of_block BY0.out) BY0.out)
    have BB3 := Lib.hid (BB0.out.trans (hb.mono BB0.out.size))
    have IX3 := Lib.hid (IX0.out.keep fun p hp => hb.cell (p := p) (by omega))
    have IY3 := Lib.hid (IY0.out.keep fun p hp => hb.cell (p := p) (by omega))
    have p0 : wr.cell? ⟨b1, 0, none⟩ = some (.slice Ap n cp) := cells_of BX3.out 0
    have p1 : wr.cell? ⟨b1, 1, none⟩ = some (.int .i64 f.fl) := cells_of BX3.out 1
    have p2 : wr.cell? ⟨b1, 2, none⟩ = some (.int .i64 f.this) := cells_of BX3.out 2
    have p3 : wr.cell? ⟨b1, 3, none⟩ = some (.int .i64 f.super) := cells_of BX3.out 3
    have p4 : wr.cell? ⟨b1, 4, none⟩ = some (.slice Ai m ci) := cells_of BX3.out 4
    have p5 : wr.cell? ⟨b1, 5, none⟩ = some (.slice Af f.fds.length cf) := cells_of BX3.out 5
    have p6 : wr.cell? ⟨b1, 6, none⟩ = some (.slice Am f.mts.length cm) := cells_of BX3.out 6
    have q0 : wr.cell? ⟨b1 + 1, 0, none⟩ = some (.slice Ap2 n cp2) := cells_of BY3.out 0
    have q1 : wr.cell? ⟨b1 + 1, 1, none⟩ = some (.int .i64 g.fl) := cells_of BY3.out 1
    have q2 : wr.cell? ⟨b1 + 1, 2, none⟩ = some (.int .i64 g.this) := cells_of BY3.out 2
    have q3 : wr.cell? ⟨b1 + 1, 3, none⟩ = some (.int .i64 g.super) := cells_of BY3.out 3
    have q4 : wr.cell? ⟨b1 + 1, 4, none⟩ = some (.slice Ai2 m ci2) := cells_of BY3.out 4
    have q5 : wr.cell? ⟨b1 + 1, 5, none⟩ = some (.slice Af2 g.fds.length cf2) := cells_of BY3.out 5
    have q6 : wr.cell? ⟨b1 + 1, 6, none⟩ = some (.slice Am2 g.mts.length cm2) := cells_of BY3.out 6
    have ltp := lt_of_block BX3.out
    have ltq := lt_of_block BY3.out
    have hsz3 := hb.size
    by_cases hj : j < n
    · have hjm : (j : Int) < (n : Int) := by omega
      have hg3 : gk - 1 < gk := by omega
      obtain ⟨u, hu⟩ : ∃ u, f.pool[j]? = some u := ⟨_, List.getElem?_eq_getElem (by rw [HN.out]; exact hj)⟩
      obtain ⟨v, hv⟩ : ∃ v, g.pool[j]? = some v := ⟨_, List.getElem?_eq_getElem (by rw [← HE3.out, HN.out]; exact hj)⟩
      have rx3 : CRow B wr (.slice Ap n cp) f.pool := by have := IX3.out.pool; rwa [HN.out] at this
      have ry3 : CRow B wr (.slice Ap2 n cp2) g.pool := by have := IY3.out.pool; rwa [← HE3.out, HN.out] at this
      obtain ⟨d1, o1, rfl, hd1, u0, u1, u2, u3, u4, u5⟩ := rx3.at_ hu
      obtain ⟨d2, o3, rfl, hd2, v0, v1, v2, v3, v4, v5⟩ := ry3.at_ hv
      have ld1 : d1 < wr.heap.size := by omega
      have ld2 : d2 < wr.heap.size := by omega
      have HU := Lib.hid hu
      have HV := Lib.hid hv
      clear hu hv rx3 ry3 htj hb
      by_cases huv : u = v
      · have hq : ∀ W, (Op.equalIn 10000 47 (.agg #[.int .i64 u.tag, .string u.text, .int .i64 u.n, .int .i64 u.a, .int .i64 u.b, .int .i64 u.c]) (.agg #[.int .i64 v.tag, .string v.text, .int .i64 v.n, .int .i64 v.a, .int .i64 v.b, .int .i64 v.c])).run Try.prog W = .ok true W := fun W => by rw [eq47, (cnB_iff u v).2 huv]
        have HUV := Lib.hid huv
        clear huv
        go_wp2
        go_quiet (fail)
        go_wp2
        go_roundg (gk - 1)
        case measure => exact hg3
        case rel => exact ⟨j + 1, by go_num, by omega, take_next HU.out (by rw [HUV.out]; exact HV.out) HJ.out, belowDN HB3.out _⟩
      · have hq : ∀ W, (Op.equalIn 10000 47 (.agg #[.int .i64 u.tag, .string u.text, .int .i64 u.n, .int .i64 u.a, .int .i64 u.b, .int .i64 u.c]) (.agg #[.int .i64 v.tag, .string v.text, .int .i64 v.n, .int .i64 v.a, .int .i64 v.b, .int .i64 v.c])).run Try.prog W = .ok false W := fun W => by rw [eq47, Bool.eq_false_iff.2 (fun h => huv ((cnB_iff u v).1 h))]
        have NE := Lib.hid (fl_ne (f := f) (g := g) (.inr (.inr (.inr (.inl (ne_at HU.out HV.out huv))))))
        clear huv
        go_wp2
        go_quiet (fail)
        go_wp2
        go_ret
        exact ⟨false, rfl, by simp; exact NE.out, belowDN BB3.out _⟩
    · obtain rfl : j = n := by omega
      have HP := Lib.hid (take_all HE3.out (by rw [HN.out]; exact HJ.out))
      clear htj hb HJ
      go_wp2
      obtain ⟨wp, hwp⟩ : ∃ wp, wp = wr := ⟨_, rfl⟩
      subst hwp
      have hBo2 : B ≤ wp.heap.size := by omega
      clear p0 p1 p2 p3 p4 p5 p6 q0 q1 q2 q3 q4 q5 q6 ltp ltq hsz3
      go_loopg [6] m (fun gx iv wx => ∃ i : Nat, iv = .int .i64 i ∧ i + gx = m ∧ f.ifs.take i = g.ifs.take i ∧ Below wp.heap.size wp wx)
      case atStart => exact ⟨0, rfl, by omega, rfl, Below.refl _ _⟩
      case round =>
        obtain ⟨i, rfl, hig, hti, hb⟩ := hrel
        have HJ := Lib.hid hti
        have HB4 := Lib.hid hb
        have BX4 := Lib.hid (Below.keep hb (lt_of_block BX3.out) BX3.out)
        have BY4 := Lib.hid (Below.keep hb (lt_of_block BY3.out) BY3.out)
        have BB4 := Lib.hid (BB3.out.trans (hb.mono BB3.out.size))
        have IX4 := Lib.hid (IX3.out.keep fun p hp => hb.cell (p := p) (by omega))
        have IY4 := Lib.hid (IY3.out.keep fun p hp => hb.cell (p := p) (by omega))
        have p0 : wr.cell? ⟨b1, 0, none⟩ = some (.slice Ap j cp) := cells_of BX4.out 0
        have p1 : wr.cell? ⟨b1, 1, none⟩ = some (.int .i64 f.fl) := cells_of BX4.out 1
        have p2 : wr.cell? ⟨b1, 2, none⟩ = some (.int .i64 f.this) := cells_of BX4.out 2
        have p3 : wr.cell? ⟨b1, 3, none⟩ = some (.int .i64 f.super) := cells_of BX4.out 3
        have p4 : wr.cell? ⟨b1, 4, none⟩ = some (.slice Ai m ci) := cells_of BX4.out 4
        have p5 : wr.cell? ⟨b1, 5, none⟩ = some (.slice Af f.fds.length cf) := cells_of BX4.out 5
        have p6 : wr.cell? ⟨b1, 6, none⟩ = some (.slice Am f.mts.length cm) := cells_of BX4.out 6
        have q0 : wr.cell? ⟨b1 + 1, 0, none⟩ = some (.slice Ap2 j cp2) := cells_of BY4.out 0
        have q1 : wr.cell? ⟨b1 + 1, 1, none⟩ = some (.int .i64 g.fl) := cells_of BY4.out 1
        have q2 : wr.cell? ⟨b1 + 1, 2, none⟩ = some (.int .i64 g.this) := cells_of BY4.out 2
        have q3 : wr.cell? ⟨b1 + 1, 3, none⟩ = some (.int .i64 g.super) := cells_of BY4.out 3
        have q4 : wr.cell? ⟨b1 + 1, 4, none⟩ = some (.slice Ai2 m ci2) := cells_of BY4.out 4
        have q5 : wr.cell? ⟨b1 + 1, 5, none⟩ = some (.slice Af2 g.fds.length cf2) := cells_of BY4.out 5
        have q6 : wr.cell? ⟨b1 + 1, 6, none⟩ = some (.slice Am2 g.mts.length cm2) := cells_of BY4.out 6
        have ltp := lt_of_block BX4.out
        have ltq := lt_of_block BY4.out
        have hsz4 := hb.size
        by_cases hi : i < m
        · have him : (i : Int) < (m : Int) := by omega
          have hg4 : gk - 1 < gk := by omega
          obtain ⟨u, hu⟩ : ∃ u, f.ifs[i]? = some u := ⟨_, List.getElem?_eq_getElem (by rw [HM.out]; exact hi)⟩
          obtain ⟨v, hv⟩ : ∃ v, g.ifs[i]? = some v := ⟨_, List.getElem?_eq_getElem (by rw [← HE4.out, HM.out]; exact hi)⟩
          have rx3 : IRow B wr (.slice Ai m ci) f.ifs := by have := IX4.out.ifs; rwa [HM.out] at this
          have ry3 : IRow B wr (.slice Ai2 m ci2) g.ifs := by have := IY4.out.ifs; rwa [← HE4.out, HM.out] at this
          obtain ⟨d1, o1, rfl, hd1, u0⟩ := rx3.at_ hu
          obtain ⟨d2, o3, rfl, hd2, v0⟩ := ry3.at_ hv
          have ld1 : d1 < wr.heap.size := by omega
          have ld2 : d2 < wr.heap.size := by omega
          have HU := Lib.hid hu
          have HV := Lib.hid hv
          clear hu hv rx3 ry3 hti hb
          by_cases huv : u = v
          · have HUV := Lib.hid huv
            have kk : (u == v) = true := by simpa using huv
            have ll : (u != v) = false := by rw [bne, kk]; rfl
            clear huv
            go_wp2
            go_quiet (fail)
            go_wp2
            go_roundg (gk - 1)
            case measure => exact hg4
            case rel => exact ⟨i + 1, by go_num, by omega, take_next HU.out (by rw [HUV.out]; exact HV.out) HJ.out, belowDN HB4.out _⟩
          · have NE := Lib.hid (fl_ne (f := f) (g := g) (.inr (.inr (.inr (.inr (.inl (ne_at HU.out HV.out huv)))))))
            have kk : (u == v) = false := by simpa using huv
            have ll : (u != v) = true := by rw [bne, kk]; rfl
            clear huv
            go_wp2
            go_quiet (fail)
            go_wp2
            go_ret
            exact ⟨false, rfl, by simp; exact NE.out, belowDN BB4.out _⟩
        · obtain rfl : i = m := by omega
          have HI := Lib.hid (take_all HE4.out (by rw [HM.out]; exact HJ.out))
          have HF := Lib.hid (sameMembers_any f.fds g.fds Af Af2 cf cf2 wr IX4.out.fds IY4.out.fds (by omega))
          clear hti hb HJ
          go_wp2_with fail
          refine (HF.out).mono ?_
          rintro e w5 ⟨r1, rfl, hr1, hb⟩
          have BX5 := Lib.hid (Below.keep hb (lt_of_block BX4.out) BX4.out)
          have BY5 := Lib.hid (Below.keep hb (lt_of_block BY4.out) BY4.out)
          have BB5 := Lib.hid (BB4.out.trans (hb.mono BB4.out.size))
          have IX5 := Lib.hid (IX4.out.keep fun p hp => hb.cell (p := p) (by omega))
          have IY5 := Lib.hid (IY4.out.keep fun p hp => hb.cell (p := p) (by omega))
          have hsz5 := hb.size
          clear p0 p1 p2 p3 p4 p5 p6 q0 q1 q2 q3 q4 q5 q6 ltp ltq
          have p0 : w5.cell? ⟨b1, 0, none⟩ = some (.slice Ap j cp) := cells_of BX5.out 0
          have p1 : w5.cell? ⟨b1, 1, none⟩ = some (.int .i64 f.fl) := cells_of BX5.out 1
          have p2 : w5.cell? ⟨b1, 2, none⟩ = some (.int .i64 f.this) := cells_of BX5.out 2
          have p3 : w5.cell? ⟨b1, 3, none⟩ = some (.int .i64 f.super) := cells_of BX5.out 3
          have p4 : w5.cell? ⟨b1, 4, none⟩ = some (.slice Ai i ci) := cells_of BX5.out 4
          have p5 : w5.cell? ⟨b1, 5, none⟩ = some (.slice Af f.fds.length cf) := cells_of BX5.out 5
          have p6 : w5.cell? ⟨b1, 6, none⟩ = some (.slice Am f.mts.length cm) := cells_of BX5.out 6
          have q0 : w5.cell? ⟨b1 + 1, 0, none⟩ = some (.slice Ap2 j cp2) := cells_of BY5.out 0
          have q1 : w5.cell? ⟨b1 + 1, 1, none⟩ = some (.int .i64 g.fl) := cells_of BY5.out 1
          have q2 : w5.cell? ⟨b1 + 1, 2, none⟩ = some (.int .i64 g.this) := cells_of BY5.out 2
          have q3 : w5.cell? ⟨b1 + 1, 3, none⟩ = some (.int .i64 g.super) := cells_of BY5.out 3
          have q4 : w5.cell? ⟨b1 + 1, 4, none⟩ = some (.slice Ai2 i ci2) := cells_of BY5.out 4
          have q5 : w5.cell? ⟨b1 + 1, 5, none⟩ = some (.slice Af2 g.fds.length cf2) := cells_of BY5.out 5
          have q6 : w5.cell? ⟨b1 + 1, 6, none⟩ = some (.slice Am2 g.mts.length cm2) := cells_of BY5.out 6
          have ltp := lt_of_block BX5.out
          have ltq := lt_of_block BY5.out
          have HR1 := Lib.hid hr1
          have HG := Lib.hid (sameMembers_any f.mts g.mts Am Am2 cm cm2 w5 IX5.out.mts IY5.out.mts (by omega))
          clear hb hr1
          go_wp2_with fail
          refine (HG.out).mono ?_
          rintro e w6 ⟨r2, rfl, hr2, hb⟩
          have BB6 := Lib.hid (BB5.out.trans (hb.mono BB5.out.size))
          clear p0 p1 p2 p3 p4 p5 p6 q0 q1 q2 q3 q4 q5 q6 ltp ltq
          have HR := Lib.hid (show (r1 && r2) = true ↔ f = g by
            rw [Bool.and_eq_true, HR1.out, hr2]
            exact ⟨fun h => fl_eq HE0.out HE1.out HE2.out HP.out HI.out h.1 h.2, fun h => by rw [h]; exact ⟨rfl, rfl⟩⟩)
          clear hb hr2
          cases r1
          · go_wp2
            go_ret
            exact ⟨false, rfl, HR.out, BB6.out⟩
          · go_wp2
            go_ret
            exact ⟨r2, rfl, HR.out, BB6.out⟩
end Go.Proofs.Ytcgloepfnnfioaa
