/-
  WALKS: is a member ahead of the same name (a closure, and the library that asks it).
-/
import Derived.Test.YtcgloepfnnfioaaE8
set_option linter.unusedVariables false
set_option linter.unusedSimpArgs false
namespace Go.Proofs.Ytcgloepfnnfioaa
open Go.RowKit

/-- What the closure that compares members has at hand. -/
structure MEnv (B : Nat) (g : FuncId) (F S Lb I : Nat) (Ap : Option Addr) (cp : Nat) (Ai : Option Addr) (ci : Nat) (Af : Option Addr) (cf : Nat) (Am : Option Addr) (cm : Nat) (f : Fl) (A : Option Addr) (cap : Nat) (ms : List Mb) (k : Nat) (w : World) : Prop where
  fbox : FBox F Ap cp Ai ci Af cf Am cm f w
  sbox : w.heap[S]? = some (.cells #[.func (.func g) #[] #[]] 61 (0, 0))
  lbox : w.heap[Lb]? = some (.cells #[.slice A ms.length cap] 24 (0, 0))
  ibox : w.heap[I]? = some (.cells #[.int .i64 (k : Int)] 3 (0, 0))
  file : FileAt B w (.agg #[.slice Ap f.pool.length cp, .int .i64 f.fl, .int .i64 f.this, .int .i64 f.super, .slice Ai f.ifs.length ci, .slice Af f.fds.length cf, .slice Am f.mts.length cm]) f
  rows : MRow B w (.slice A ms.length cap) ms
  le : B ≤ w.heap.size
section
variable {B : Nat} {g : FuncId} {F S Lb I : Nat} {Ap Ai Af Am : Option Addr} {cp ci cf cm : Nat} {f : Fl} {A : Option Addr} {cap : Nat} {ms : List Mb} {k : Nat} {w w' : World}
theorem MEnv.below {n : Nat} (h : MEnv B g F S Lb I Ap cp Ai ci Af cf Am cm f A cap ms k w) (hb : Below n w w') (hn : w.heap.size ≤ n) : MEnv B g F S Lb I Ap cp Ai ci Af cf Am cm f A cap ms k w' :=
  ⟨h.fbox.below hb (Nat.lt_of_lt_of_le h.fbox.lt hn), Below.keep hb (Nat.lt_of_lt_of_le (lt_of_block h.sbox) hn) h.sbox, Below.keep hb (Nat.lt_of_lt_of_le (lt_of_block h.lbox) hn) h.lbox, Below.keep hb (Nat.lt_of_lt_of_le (lt_of_block h.ibox) hn) h.ibox,
    h.file.below hb (Nat.le_trans h.le hn), h.rows.keep fun p hp => hb.cell (p := p) (Nat.lt_of_lt_of_le hp (Nat.le_trans h.le hn)), Nat.le_trans h.le hb.size⟩
theorem MEnv.alloc (h : MEnv B g F S Lb I Ap cp Ai ci Af cf Am cm f A cap ms k w) (o : Obj) : MEnv B g F S Lb I Ap cp Ai ci Af cf Am cm f A cap ms k (w.alloc o) :=
  h.below ((Below.refl w.heap.size w).alloc (Nat.le_refl _) o) (Nat.le_refl _)
theorem MEnv.drew (h : MEnv B g F S Lb I Ap cp Ai ci Af cf Am cm f A cap ms k w) : MEnv B g F S Lb I Ap cp Ai ci Af cf Am cm f A cap ms k w.drew :=
  h.below (Below.refl w.heap.size w).drew (Nat.le_refl _)
end
set_option maxRecDepth 1000000 in
set_option maxHeartbeats 6400000 in
theorem closeN {B F S Lb I : Nat} {Ap Ai Af Am : Option Addr} {cp ci cf cm : Nat} {f : Fl} {A : Option Addr} {cap : Nat} {ms : List Mb} {k : Nat} (w : World) (h : MEnv B 40 F S Lb I Ap cp Ai ci Af cf Am cm f A cap ms k w) (y : Mb) (hy : ms[k]? = some y) (m : Mb) (Aa : Option Addr) (ca : Nat) :
    Calls Try.prog 78 #[.agg #[.int .i64 m.fl, .int .i64 m.nm, .int .i64 m.ds, .int .i64 m.ms, .int .i64 m.ml, .string m.code, .slice Aa m.hs.length ca], .pointer (some ⟨S, 0, none⟩), .pointer (some ⟨F, 0, none⟩), .pointer (some ⟨Lb, 0, none⟩), .pointer (some ⟨I, 0, none⟩)] w fun e w' => e = .returned (.bool (sameN f.pool m y)) ∧ Below w.heap.size w w' := by
  have BE := Lib.hid ((Below.refl w.heap.size w).alloc (Nat.le_refl _) (.cells #[.int .i64 m.fl, .int .i64 m.nm, .int .i64 m.ds, .int .i64 m.ms, .int .i64 m.ml, .string m.code, .slice Aa m.hs.length ca] 38))
  have H1 := h.alloc (.cells #[.int .i64 m.fl, .int .i64 m.nm, .int .i64 m.ds, .int .i64 m.ms, .int .i64 m.ml, .string m.code, .slice Aa m.hs.length ca] 38)
  have BM := MBox.new m Aa ca w
  have hmax : ms.length ≤ 9223372036854775807 := by
    obtain ⟨_, _, _, _, _, _, _, hm, _⟩ := h.rows
    unfold maxLen at hm
    exact hm
  have hk : k < ms.length := (List.getElem?_eq_some_iff.1 hy).1
  obtain ⟨b, o, A', c', rfl, hb, hrow, y0, y1, y2, y3, y4, y5, y6⟩ := H1.rows.at_ hy
  have HS := Lib.hid (fun V W hW hWB => sameName_any (B := B) f V W hW hWB m y Aa ca A' c')
  obtain ⟨c0, c1, c2, c3, c4, c5, c6⟩ := H1.fbox.cells
  obtain ⟨m0, m1, m2, m3, m4, m5, m6⟩ := BM.cells
  have s0 : (w.alloc (.cells #[.int .i64 m.fl, .int .i64 m.nm, .int .i64 m.ds, .int .i64 m.ms, .int .i64 m.ml, .string m.code, .slice Aa m.hs.length ca] 38)).cell? ⟨S, 0, none⟩ = some (.func (.func 40) #[] #[]) := cells_of H1.sbox 0
  have l0 : (w.alloc (.cells #[.int .i64 m.fl, .int .i64 m.nm, .int .i64 m.ds, .int .i64 m.ms, .int .i64 m.ml, .string m.code, .slice Aa m.hs.length ca] 38)).cell? ⟨Lb, 0, none⟩ = some (.slice (some ⟨b, o, none⟩) ms.length cap) := cells_of H1.lbox 0
  have i0 : (w.alloc (.cells #[.int .i64 m.fl, .int .i64 m.nm, .int .i64 m.ds, .int .i64 m.ms, .int .i64 m.ml, .string m.code, .slice Aa m.hs.length ca] 38)).cell? ⟨I, 0, none⟩ = some (.int .i64 (k : Int)) := cells_of H1.ibox 0
  have HFL := Lib.hid H1.file
  have hle := H1.le
  clear H1 BM h hrow hy
  go_enter Try.func78, Try.ntmps78
  go_wp2
  generalize w.alloc (.cells #[.int .i64 m.fl, .int .i64 m.nm, .int .i64 m.ds, .int .i64 m.ms, .int .i64 m.ml, .string m.code, .slice Aa m.hs.length ca] 38) = W at *
  refine wp_region_still_tail 7 (by kernel_rfl) (by kernel_rfl) ?_
  change wpStill _ _ W.drew _ _ _
  simp only [List.take_succ_cons, List.take_zero, List.drop_succ_cons, List.drop_zero]
  repeat still_step
  refine wpStill_nil ?_
  change wpList _ _ _ _ _ W.drew
  go_wp2_with fail
  refine (HS.out _ W.drew (HFL.out.drew) hle).mono ?_
  rintro e w1 ⟨rfl, hb⟩
  have BE1 := Lib.hid (Below.link BE.out.drew hb)
  clear hb
  go_wp2
  go_ret
  exact ⟨rfl, BE1.out⟩
set_option maxRecDepth 1000000 in
set_option maxHeartbeats 6400000 in
theorem closeM {B F S Lb I : Nat} {Ap Ai Af Am : Option Addr} {cp ci cf cm : Nat} {f : Fl} {A : Option Addr} {cap : Nat} {ms : List Mb} {k : Nat} (w : World) (h : MEnv B 43 F S Lb I Ap cp Ai ci Af cf Am cm f A cap ms k w) (y : Mb) (hy : ms[k]? = some y) (m : Mb) (Aa : Option Addr) (ca : Nat) :
    Calls Try.prog 78 #[.agg #[.int .i64 m.fl, .int .i64 m.nm, .int .i64 m.ds, .int .i64 m.ms, .int .i64 m.ml, .string m.code, .slice Aa m.hs.length ca], .pointer (some ⟨S, 0, none⟩), .pointer (some ⟨F, 0, none⟩), .pointer (some ⟨Lb, 0, none⟩), .pointer (some ⟨I, 0, none⟩)] w fun e w' => e = .returned (.bool (sameM f.pool m y)) ∧ Below w.heap.size w w' := by
  have BE := Lib.hid ((Below.refl w.heap.size w).alloc (Nat.le_refl _) (.cells #[.int .i64 m.fl, .int .i64 m.nm, .int .i64 m.ds, .int .i64 m.ms, .int .i64 m.ml, .string m.code, .slice Aa m.hs.length ca] 38))
  have H1 := h.alloc (.cells #[.int .i64 m.fl, .int .i64 m.nm, .int .i64 m.ds, .int .i64 m.ms, .int .i64 m.ml, .string m.code, .slice Aa m.hs.length ca] 38)
  have BM := MBox.new m Aa ca w
  have hmax : ms.length ≤ 9223372036854775807 := by
    obtain ⟨_, _, _, _, _, _, _, hm, _⟩ := h.rows
    unfold maxLen at hm
    exact hm
  have hk : k < ms.length := (List.getElem?_eq_some_iff.1 hy).1
  obtain ⟨b, o, A', c', rfl, hb, hrow, y0, y1, y2, y3, y4, y5, y6⟩ := H1.rows.at_ hy
  have HS := Lib.hid (fun V W hW hWB => sameMethod_any (B := B) f V W hW hWB m y Aa ca A' c')
  obtain ⟨c0, c1, c2, c3, c4, c5, c6⟩ := H1.fbox.cells
  obtain ⟨m0, m1, m2, m3, m4, m5, m6⟩ := BM.cells
  have s0 : (w.alloc (.cells #[.int .i64 m.fl, .int .i64 m.nm, .int .i64 m.ds, .int .i64 m.ms, .int .i64 m.ml, .string m.code, .slice Aa m.hs.length ca] 38)).cell? ⟨S, 0, none⟩ = some (.func (.func 43) #[] #[]) := cells_of H1.sbox 0
  have l0 : (w.alloc (.cells #[.int .i64 m.fl, .int .i64 m.nm, .int .i64 m.ds, .int .i64 m.ms, .int .i64 m.ml, .string m.code, .slice Aa m.hs.length ca] 38)).cell? ⟨Lb, 0, none⟩ = some (.slice (some ⟨b, o, none⟩) ms.length cap) := cells_of H1.lbox 0
  have i0 : (w.alloc (.cells #[.int .i64 m.fl, .int .i64 m.nm, .int .i64 m.ds, .int .i64 m.ms, .int .i64 m.ml, .string m.code, .slice Aa m.hs.length ca] 38)).cell? ⟨I, 0, none⟩ = some (.int .i64 (k : Int)) := cells_of H1.ibox 0
  have HFL := Lib.hid H1.file
  have hle := H1.le
  clear H1 BM h hrow hy
  go_enter Try.func78, Try.ntmps78
  go_wp2
  generalize w.alloc (.cells #[.int .i64 m.fl, .int .i64 m.nm, .int .i64 m.ds, .int .i64 m.ms, .int .i64 m.ml, .string m.code, .slice Aa m.hs.length ca] 38) = W at *
  refine wp_region_still_tail 7 (by kernel_rfl) (by kernel_rfl) ?_
  change wpStill _ _ W.drew _ _ _
  simp only [List.take_succ_cons, List.take_zero, List.drop_succ_cons, List.drop_zero]
  repeat still_step
  refine wpStill_nil ?_
  change wpList _ _ _ _ _ W.drew
  go_wp2_with fail
  refine (HS.out _ W.drew (HFL.out.drew) hle).mono ?_
  rintro e w1 ⟨rfl, hb⟩
  have BE1 := Lib.hid (Below.link BE.out.drew hb)
  clear hb
  go_wp2
  go_ret
  exact ⟨rfl, BE1.out⟩
end Go.Proofs.Ytcgloepfnnfioaa
