/-
  WALK of the examples at the head of all laws of the chapter.
-/
import Derived.Test.YtcgloepfnnfioaaA6
set_option linter.unusedVariables false
set_option linter.unusedSimpArgs false
namespace Go.Proofs.Ytcgloepfnnfioaa
open Go.RowKit

theorem Row.of_own {w : World} {base : Nat} {e : TypeId} {size : Nat} {v : Value} {n : Nat} {xs : List Value} (h : w.ownsRow base e size v n xs) (hn : n ≤ maxLen) : Row w.heap.size size w v n xs := by
  have h0 := h
  rcases h.2 with ⟨rfl, rfl⟩ | ⟨g, cap, cur, rfl, _, _, hc, _⟩
  · exact ⟨none, 0, rfl, Nat.le_refl _, hn, Reads.of_own h0⟩
  · exact ⟨some ⟨g, 0, none⟩, cap, rfl, hc, hn, Reads.of_own h0⟩
theorem ownsRow_blk {w : World} {b n : Nat} {cs : Array Value} {e : TypeId} {size : Nat} (h : w.heap[b]? = some (.cells cs e (0, 0))) (hs : cs.size = n * size) (hn : n ≤ maxLen) : w.ownsRow b e size (.slice (some ⟨b, 0, none⟩) n n) n cs.toList :=
  ⟨by simpa using hs, .inr ⟨b, n, cs, rfl, Nat.le_refl _, h, Nat.le_refl _, hn, hs, by rw [← hs, ← Array.length_toList]; exact List.take_length⟩⟩
theorem ccells_len (cs : List Cn) : (cs.flatMap ccells).length = cs.length * 6 := by
  induction cs with
  | nil => rfl
  | cons c r ih =>
    rw [List.flatMap_cons, List.length_append, ih, List.length_cons]
    show 6 + _ = _
    omega
theorem CRow.blk {w : World} {b : Nat} {cs : List Cn} (h : w.heap[b]? = some (.cells (cs.flatMap ccells).toArray 47 (0, 0))) (hn : cs.length ≤ maxLen) : CRow w.heap.size w (.slice (some ⟨b, 0, none⟩) cs.length cs.length) cs :=
  Row.of_own (ownsRow_blk h (by rw [List.size_toArray]; exact ccells_len cs) hn) hn
theorem IRow.nil {B : Nat} {w : World} : IRow B w (.slice none 0 0) [] := Row.nil
theorem HRow.nil {B : Nat} {w : World} : HRow B w (.slice none 0 0) [] := Row.nil
theorem MRow.nil {B : Nat} {w : World} : MRow B w (.slice none 0 0) [] := ⟨[], rfl, fun i m hv h => by simp at h, Row.nil⟩
/-- The chapter's first file. -/
def smallP : List Cn := [⟨1, ⟨#[65]⟩, 0, 0, 0, 0⟩, ⟨4, ⟨#[]⟩, 0, 1, 0, 0⟩, ⟨1, ⟨#[79, 98, 106, 101, 99, 116]⟩, 0, 0, 0, 0⟩, ⟨4, ⟨#[]⟩, 0, 3, 0, 0⟩]
def smallF : Fl := ⟨smallP, 0, 2, 4, [], [], []⟩
theorem smallC : smallP.flatMap ccells = [.int .i64 1, .string ⟨#[65]⟩, .int .i64 0, .int .i64 0, .int .i64 0, .int .i64 0, .int .i64 4, .string ⟨#[]⟩, .int .i64 0, .int .i64 1, .int .i64 0, .int .i64 0,
    .int .i64 1, .string ⟨#[79, 98, 106, 101, 99, 116]⟩, .int .i64 0, .int .i64 0, .int .i64 0, .int .i64 0, .int .i64 4, .string ⟨#[]⟩, .int .i64 0, .int .i64 3, .int .i64 0, .int .i64 0] := rfl
theorem ex_small : encF smallF = 0 := by decide +kernel
theorem ex_this : encF ⟨smallP, 0, 1, 4, [], [], []⟩ = 7 := by decide +kernel
theorem ex_flags : encF ⟨smallP, 1, 2, 4, [], [], []⟩ = 10 := by decide +kernel
theorem ex_pool : encF ⟨smallP ++ [⟨4, ⟨#[]⟩, 0, 9, 0, 0⟩], 0, 2, 4, [], [], []⟩ = 7 := by decide +kernel
theorem ex_field : encF ⟨smallP, 0, 2, 4, [], [⟨0, 1, 1, 0, 0, ⟨#[]⟩, []⟩], []⟩ = 9 := by decide +kernel
theorem ex_bytes : 13 < (encT smallF).size ∧ (encT smallF).extract 0 13 = ⟨#[67, 82, 85, 88, 0, 4, 1, 0, 1, 65, 4, 0, 1]⟩ := by decide +kernel
set_option maxRecDepth 1000000 in
set_option maxHeartbeats 6400000 in
theorem small_any (w : World) :
    Calls Try.prog 25 #[] w fun e w' => ∃ b, e = .returned (.agg #[.slice (some ⟨b, 0, none⟩) 4 4, .int .i64 0, .int .i64 2, .int .i64 4, .slice none 0 0, .slice none 0 0, .slice none 0 0]) ∧ w'.heap[b]? = some (.cells (smallP.flatMap ccells).toArray 47 (0, 0)) ∧ w.heap.size ≤ b ∧ Below w.heap.size w w' := by
  rw [smallC]
  go_enter Try.func25, Try.ntmps25
  go_wp2
  refine bodyPost_ret (v := .agg #[.slice (some ⟨w.heap.size + 1, 0, none⟩) 4 4, .int .i64 0, .int .i64 2, .int .i64 4, .slice none 0 0, .slice none 0 0, .slice none 0 0]) (by simp [results, Try.results25, go_sem]) rfl ⟨w.heap.size + 1, rfl, ?_, by omega, ?_⟩
  · exact heap_new2 w _ _
  · exact ((Below.refl _ _).alloc (Nat.le_refl _) _).alloc (by simp) _
theorem Try.info47 : (Try.prog.info? 47).map (fun i => (i.zero, i.size, i.bytes)) = some (some (.agg #[.int .i64 0, .string ⟨#[]⟩, .int .i64 0, .int .i64 0, .int .i64 0, .int .i64 0]), 6, 56) := by kernel_rfl
theorem smallTexts : Texts smallP := by unfold Texts; decide +kernel
theorem poolTexts : Texts (smallP ++ [⟨4, ⟨#[]⟩, 0, 9, 0, 0⟩]) := by unfold Texts; decide +kernel
theorem fileAt_of {B : Nat} {w : World} {Ap : Option Addr} {cp : Nat} {Af : Option Addr} {cf : Nat} {p : List Cn} {fl this super : Int} {fds : List Mb} (hp : CRow B w (.slice Ap p.length cp) p) (hf : MRow B w (.slice Af fds.length cf) fds) :
    FileAt B w (.agg #[.slice Ap p.length cp, .int .i64 fl, .int .i64 this, .int .i64 super, .slice none 0 0, .slice Af fds.length cf, .slice none 0 0]) ⟨p, fl, this, super, [], fds, []⟩ :=
  ⟨Ap, cp, none, 0, Af, cf, none, 0, rfl, hp, Row.nil, hf, MRow.nil⟩
theorem Right_ex {w : World} {v : Value} {f : Fl} {e : Int} (hf : FileAt w.heap.size w v f) (ht : Texts f.pool) (he : encF f = e) : Calls Try.prog 14 #[v] w fun e' w' => e' = .returned (.int .i64 e) ∧ Below w.heap.size w w' := by
  have := Right_file f v w hf (Nat.le_refl _) ht
  rwa [he] at this
end Go.Proofs.Ytcgloepfnnfioaa
