/-
  PRUNED by wip/tools/prunem.py: what these texts need of an earlier stage's.
-/
import Derived.Test.YtcgloepfnnfioaaW8
import Derived.Test.YtcgloepfnnfioaaW3
set_option linter.unusedVariables false
set_option linter.unusedSimpArgs false
namespace Go.Proofs.Ytcgloepfnnfioaa
open Go.RowKit

/-- 'string' of a new slice of bytes that are written out. -/
theorem bytes_new (w : World) (n : Nat) (vs : List Value) (l : List UInt8) (hv : vs = bcells l) (hn : n = l.length) :
    (convert 49 9 (.slice (some ⟨w.heap.size, 0, none⟩) n n)).run Try.prog (w.alloc (.cells vs.toArray 5)) = .ok (strV l) (w.alloc (.cells vs.toArray 5)) := by
  subst hn hv
  refine run_convert_bytes_back (w.alloc (.cells (bcells l).toArray 5)) 49 9 5 ⟨w.heap.size, 0, none⟩ l.length l Try.underlying49 Try.underlying5 Try.underlying9 ?_
  intro j hj
  exact new_cells w (bcells l) 5 j _ (by simp [bcells, hj])
theorem byte_cell {x : Nat} {z : Int} (h : z = (x : Int)) (hx : x < 256) : Value.int .u8 z = .int .u8 ((UInt8.ofNat x).toNat : Int) := by
  subst h
  congr 1
  simp
  omega
theorem cells_1 {x : Nat} {z : Int} (h : z = (x : Int)) (hx : x < 256) : [Value.int .u8 z] = bcells (bs [x]) := by
  rw [byte_cell h hx]; rfl
theorem cells_2 {x y : Nat} {z u : Int} (h : z = (x : Int)) (hx : x < 256) (h2 : u = (y : Int)) (hy : y < 256) : [Value.int .u8 z, .int .u8 u] = bcells (bs [x, y]) := by
  rw [byte_cell h hx, byte_cell h2 hy]; rfl
theorem cells_3 {x y t : Nat} {z u v : Int} (h : z = (x : Int)) (hx : x < 256) (h2 : u = (y : Int)) (hy : y < 256) (h3 : v = (t : Int)) (ht : t < 256) : [Value.int .u8 z, .int .u8 u, .int .u8 v] = bcells (bs [x, y, t]) := by
  rw [byte_cell h hx, byte_cell h2 hy, byte_cell h3 ht]; rfl
/-- Sixteen bits in three bytes. -/
def th (r : Nat) : List UInt8 := bs [224 + r / 4096, 128 + r / 64 % 64, 128 + r % 64]
set_option maxRecDepth 1000000 in
set_option maxHeartbeats 400000 in
theorem three_any (z : Int) (h0 : 0 ≤ z) (h1 : z < 65536) (w : World) :
    Calls Try.prog 111 #[.int .i64 z] w fun e w' => e = .returned (strV (th z.toNat)) ∧ Below w.heap.size w w' := by
  have hcv := bytes_new w 3 [.int .u8 (224 + z / 4096), .int .u8 (128 + z / 64 % 64), .int .u8 (128 + z % 64)] (th z.toNat) (cells_3 (by omega) (by omega) (by omega) (by omega) (by omega) (by omega)) rfl
  generalize th z.toNat = l at *
  go_enter Try.func111, Try.ntmps111
  go_wp2
  go_ret
  exact ⟨rfl, (Below.refl _ _).alloc (Nat.le_refl _) _⟩
theorem un_th {r : Nat} (h : 2048 ≤ r) : un r = th r := by unfold un unN th; rw [if_neg (by omega), if_neg (by omega)]
theorem add_str (w : World) (a b : List UInt8) (h : a.length + b.length ≤ 1000000) : (binOp .add 9 (strV a) (strV b)).run Try.prog w = .ok (strV (a ++ b)) w := by
  have := run_string_add_lists (P := Try.prog) w a b (by omega) (by omega)
  simp only [binOp, strV]
  rw [this]
set_option maxRecDepth 1000000 in
set_option maxHeartbeats 400000 in
theorem Bytes_any (z : Int) (hz : 0 ≤ z) (hz2 : z ≤ 1114111) (w : World) :
    Calls Try.prog 88 #[.int .i64 z] w fun e w' => e = .returned (strV (mb z.toNat)) ∧ Below w.heap.size w w' := by
  by_cases h1 : 1 ≤ z ∧ z < 128
  · obtain ⟨h1a, h1b⟩ := h1
    have hcv := bytes_new w 1 [.int .u8 z] (bs [z.toNat]) (cells_1 (by omega) (by omega)) rfl
    have e : mb z.toNat = bs [z.toNat] := by unfold mb un unN; rw [if_pos (by omega), if_pos (by omega)]
    rw [e]
    clear e
    generalize bs [z.toNat] = l at *
    go_enter Try.func88, Try.ntmps88
    go_wp2
    go_ret
    exact ⟨rfl, (Below.refl _ _).alloc (Nat.le_refl _) _⟩
  by_cases h2 : z < 2048
  · have hcv := bytes_new w 2 [.int .u8 (192 + z / 64), .int .u8 (128 + z % 64)] (bs [192 + z.toNat / 64, 128 + z.toNat % 64]) (cells_2 (by omega) (by omega) (by omega) (by omega)) rfl
    have e : mb z.toNat = bs [192 + z.toNat / 64, 128 + z.toNat % 64] := by unfold mb un unN; rw [if_pos (by omega), if_neg (by omega), if_pos (by omega)]
    rw [e]
    clear e
    by_cases h0 : z = 0
    · subst h0
      have hcv : (convert 49 9 (.slice (some ⟨w.heap.size, 0, none⟩) 2 2)).run Try.prog (w.alloc (.cells #[.int .u8 192, .int .u8 128] 5)) = .ok (strV (bs [192 + (0 : Int).toNat / 64, 128 + (0 : Int).toNat % 64])) (w.alloc (.cells #[.int .u8 192, .int .u8 128] 5)) := hcv
      generalize bs [192 + (0 : Int).toNat / 64, 128 + (0 : Int).toNat % 64] = l at *
      clear h1
      go_enter Try.func88, Try.ntmps88
      go_wp2
      go_ret
      exact ⟨rfl, (Below.refl _ _).alloc (Nat.le_refl _) _⟩
    · have h128 : 128 ≤ z := by omega
      generalize bs [192 + z.toNat / 64, 128 + z.toNat % 64] = l at *
      clear h1 h0
      go_enter Try.func88, Try.ntmps88
      go_wp2
      go_ret
      exact ⟨rfl, (Below.refl _ _).alloc (Nat.le_refl _) _⟩
  by_cases h3 : z < 65536
  · have e : mb z.toNat = th z.toNat := by unfold mb; rw [if_pos (by omega), un_th (by omega)]
    rw [e]
    have HT := Lib.hid (three_any z hz h3 w)
    have h128 : 2048 ≤ z := by omega
    clear e h1 h2
    go_enter Try.func88, Try.ntmps88
    go_wp2_with (go_at_call 111; refine HT.out.mono ?_; rintro e w' ⟨rfl, hb⟩)
    go_ret
    exact ⟨rfl, hb⟩
  · have e : mb z.toNat = th (55296 + (z - 65536) / 1024).toNat ++ th (56320 + (z - 65536) % 1024).toNat := by
      unfold mb
      have e1 : 55296 + (z.toNat - 65536) / 1024 = (55296 + (z - 65536) / 1024).toNat := by omega
      have e2 : 56320 + (z.toNat - 65536) % 1024 = (56320 + (z - 65536) % 1024).toNat := by omega
      rw [if_neg (by omega), un_th (by omega), un_th (by omega), e1, e2]
    rw [e]
    have H1 := fun W => Lib.hid (three_any (55296 + (z - 65536) / 1024) (by omega) (by omega) W)
    have H2 := fun W => Lib.hid (three_any (56320 + (z - 65536) % 1024) (by omega) (by omega) W)
    have hadd := fun W => add_str W (th (55296 + (z - 65536) / 1024).toNat) (th (56320 + (z - 65536) % 1024).toNat) (by simp [th, bs])
    have h128 : 65536 ≤ z := by omega
    clear e h1 h2 h3
    generalize th (55296 + (z - 65536) / 1024).toNat = la at *
    generalize th (56320 + (z - 65536) % 1024).toNat = lb at *
    go_enter Try.func88, Try.ntmps88
    go_wp2_with fail
    refine (H1 _).out.mono ?_
    rintro e w1 ⟨rfl, hb1⟩
    go_wp2_with fail
    refine (H2 _).out.mono ?_
    rintro e w2 ⟨rfl, hb2⟩
    have hb := hb1.trans (hb2.mono hb1.size)
    clear hb1 hb2
    go_wp2
    go_ret
    exact ⟨rfl, hb⟩
end Go.Proofs.Ytcgloepfnnfioaa
