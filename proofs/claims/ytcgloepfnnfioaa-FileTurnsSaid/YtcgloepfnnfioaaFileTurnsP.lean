/-
  PROVED: a byte of a file that may be, as 'Encode' writes it, that is turned makes bytes that 'Parse' reads as another file, which 'Encode' writes as these bytes, or that it refuses with a file without constants; no answer of the document's own is asked. Any file, any place, any byte (what the statement passes by aside). No condition.
-/
import Derived.Test.YtcgloepfnnfioaaRows
import Derived.Test.YtcgloepfnnfioaaP9
import Derived.Test.YtcgloepfnnfioaaSm
import Derived.Test.YtcgloepfnnfioaaM2
import Derived.Test.YtcgloepfnnfioaaOf
import Derived.WalkKit
import Derived.ProofKit
import Derived.OpenShut
import Derived.ShutString
import Derived.ChangeOld
import Derived.Below
set_option linter.unusedVariables false
set_option linter.unusedSimpArgs false
namespace Go.Proofs.Ytcgloepfnnfioaa
open Go.RowKit

theorem prs_good {l : List UInt8} (h : prsE l = 0) : encF (prsF l) = 0 ∧ L (encT (prsF l)) = l ∧ Texts (prsF l).pool := by
  have hF : prsF l = (rdF l 0).1 := by unfold prsF; rw [if_pos h]
  unfold prsE at h
  split at h
  · simp at h
  · rename_i hl
    split at h
    · rename_i h0
      unfold leftE at h0
      split at h0
      · rename_i hx
        obtain ⟨⟨f, x, e⟩, hX⟩ : ∃ T, rdF l 0 = T := ⟨_, rfl⟩
        rw [hX] at h h0 hx hF
        simp only at h h0 hx hF
        subst h0 hx
        rw [hF]
        obtain ⟨h1, h2⟩ := rdF_inv hX
        rw [List.append_nil] at h1
        refine ⟨h, ?_, fun c hc => by have := h2 c hc; omega⟩
        unfold encF at h
        unfold encT
        split at h
        · rename_i hp
          split at h
          · rename_i hn
            rw [if_pos ⟨hp, hn⟩]
            show fileN f = l
            exact h1.symm
          · simp at h
        · rename_i hp
          exact absurd h hp
      · exfalso
        unfold failE at h0
        split at h0
        · simp at h0
        · rename_i hx
          exact hx h0
    · rename_i h0
      exact absurd h h0
theorem prs_bad {l : List UInt8} (h : prsE l ≠ 0) : prsF l = zeroF := by unfold prsF; rw [if_neg h]
theorem xor_u8 (a z : Nat) (ha : a < 256) (hz : z < 256) : bits .xor .u8 (a : Int) (z : Int) = ((a ^^^ z : Nat) : Int) := by
  show IntKind.u8.wrap ((BitVec.ofInt 8 (a : Int) ^^^ BitVec.ofInt 8 (z : Int)).toNat : Int) = _
  have h1 : (BitVec.ofInt 8 (a : Int)).toNat = a := by rw [BitVec.ofInt_natCast, BitVec.toNat_ofNat]; exact Nat.mod_eq_of_lt (by omega)
  have h2 : (BitVec.ofInt 8 (z : Int)).toNat = z := by rw [BitVec.ofInt_natCast, BitVec.toNat_ofNat]; exact Nat.mod_eq_of_lt (by omega)
  have h3 : a ^^^ z < 2 ^ 8 := Nat.xor_lt_two_pow ha hz
  rw [BitVec.toNat_xor, h1, h2, IntKind.wrap_u8]
  omega
theorem xor_ne (a z : Nat) (hz : z ≠ 0) : a ^^^ z ≠ a := fun h => by
  have h1 : a ^^^ (a ^^^ z) = a ^^^ a := by rw [h]
  rw [← Nat.xor_assoc, Nat.xor_self, Nat.zero_xor] at h1
  exact hz h1
/-- A row of bytes with a byte turned. -/
def turnL (l : List UInt8) (k : Nat) (z : Nat) : List UInt8 := l.set k (UInt8.ofNat ((l.getD k 0).toNat ^^^ z))
theorem turn_val {l : List UInt8} {k : Nat} {b : UInt8} (hb : l[k]? = some b) (z : Nat) (hz : z < 256) : turnL l k z = l.set k (UInt8.ofNat (b.toNat ^^^ z)) ∧ (UInt8.ofNat (b.toNat ^^^ z)).toNat = b.toNat ^^^ z := by
  refine ⟨by unfold turnL; rw [List.getD_eq_getElem?_getD, hb]; rfl, ?_⟩
  rw [UInt8.toNat_ofNat']
  exact Nat.mod_eq_of_lt (Nat.xor_lt_two_pow (n := 8) b.toNat_lt hz)
theorem turn_ne {l : List UInt8} {k : Nat} {b : UInt8} (hb : l[k]? = some b) (z : Nat) (hz : z < 256) (h0 : z ≠ 0) : turnL l k z ≠ l := fun h => by
  obtain ⟨h1, h2⟩ := turn_val hb z hz
  have hk := (List.getElem?_eq_some_iff.1 hb).1
  have h3 : (turnL l k z)[k]? = some (UInt8.ofNat (b.toNat ^^^ z)) := by rw [h1, List.getElem?_set_self hk]
  rw [h, hb] at h3
  have h4 := congrArg UInt8.toNat (Option.some.inj h3)
  rw [h2] at h4
  exact xor_ne _ z h0 h4.symm
theorem turn_len (l : List UInt8) (k z : Nat) : (turnL l k z).length = l.length := by unfold turnL; rw [List.length_set]
/-- The bytes that stand in a row, one of them stored anew. -/
theorem turned_cells {w : World} {b : Nat} {l : List UInt8} {k z : Nat} {x : UInt8} (hx : l[k]? = some x) (hz : z < 256) (h : ∀ j y, l[j]? = some y → w.cell? ⟨b, j, none⟩ = some (.int .u8 (y.toNat : Int))) :
    ∀ j y, (turnL l k z)[j]? = some y → (w.setCell ⟨b, k, none⟩ (.int .u8 ((x.toNat ^^^ z : Nat) : Int))).cell? ⟨b, j, none⟩ = some (.int .u8 (y.toNat : Int)) := by
  intro j y hy
  obtain ⟨h1, h2⟩ := turn_val hx z hz
  have hk := (List.getElem?_eq_some_iff.1 hx).1
  rw [h1] at hy
  by_cases hj : j = k
  · subst hj
    rw [List.getElem?_set_self hk] at hy
    obtain rfl := Option.some.inj hy
    rw [h2]
    exact World.cell?_setCell_same _ _ _ (h j x hx)
  · rw [List.getElem?_set_ne (fun e => hj e.symm)] at hy
    have h4 := h j y hy
    rw [← h4]
    exact World.cell?_setCell_other w _ _ _ (fun e => hj (by injection e with e1 e2; exact e2.symm))
theorem encT_pos {f : Fl} (h : encF f = 0) : 0 < (encT f).size := by
  unfold encF at h
  unfold encT
  split at h
  · rename_i hp
    split at h
    · rename_i hn
      rw [if_pos ⟨hp, hn⟩]
      show 0 < (fileN f).length
      unfold fileN
      simp
    · simp at h
  · rename_i hp
    exact absurd h hp
/-- What turning a byte brings: what is read of it, if it is read, is another file, written as the bytes. -/
theorem turn_file {f g : Fl} {k z : Nat} {b : UInt8} (hb : (L (encT f))[k]? = some b) (hz : z < 256) (h0 : z ≠ 0) (hg : L (encT g) = turnL (L (encT f)) k z) : f ≠ g := fun h => by
  subst h
  exact turn_ne hb z hz h0 hg.symm
set_option maxRecDepth 1000000 in
set_option maxHeartbeats 6400000 in
theorem turns_walk {B : Nat} (f : Fl) (v : Value) (w : World) (hf : FileAt B w v f) (hB : B ≤ w.heap.size) (hs : FitsF f) (ai : Int) (hai : -9223372036854775808 ≤ ai ∧ ai ≤ 9223372036854775807) (z : Nat) (hz : z < 256) :
    Calls Try.prog 8 #[v, .int .i64 ai, .int .u8 (z : Int)] w fun e w' => e = .returned (.bool true) ∧ Below w.heap.size w w' := by
  have HS := Lib.hid (fun V W hW hWB => Small_any (B := B) f V W hW hWB hs)
  have HEN := Lib.hid (fun V W hW hWB => Encode_file (B := B) f V W hW hWB hs.pool)
  have HPOS := Lib.hid (fun h => encT_pos (f := f) h)
  have HTF := Lib.hid (fun g k b hb h0 hg => turn_file (f := f) (g := g) (k := k) (z := z) (b := b) hb hz h0 hg)
  obtain ⟨Ap, cp, Ai, ci, Af, cf, Am, cm, rfl, hi⟩ := id hf
  have BE0 := Lib.hid ((Below.refl w.heap.size w).alloc (Nat.le_refl _) (.cells #[.slice Ap f.pool.length cp, .int .i64 f.fl, .int .i64 f.this, .int .i64 f.super, .slice Ai f.ifs.length ci, .slice Af f.fds.length cf, .slice Am f.mts.length cm] 26))
  have BF0 := Lib.hid (heap_new w (.cells #[.slice Ap f.pool.length cp, .int .i64 f.fl, .int .i64 f.this, .int .i64 f.super, .slice Ai f.ifs.length ci, .slice Af f.fds.length cf, .slice Am f.mts.length cm] 26))
  have FL0 := Lib.hid (hf.alloc hB (.cells #[.slice Ap f.pool.length cp, .int .i64 f.fl, .int .i64 f.this, .int .i64 f.super, .slice Ai f.ifs.length ci, .slice Af f.fds.length cf, .slice Am f.mts.length cm] 26))
  clear hi hf hs
  generalize encT f = T at *
  generalize encF f = E at *
  generalize smallB f = S at *
  go_enter Try.func8, Try.ntmps8
  go_wp2_with fail
  refine (shown_any _).mono ?_
  rintro e w1 ⟨rfl, hb⟩
  have BE1 := Lib.hid (BE0.out.trans (hb.mono BE0.out.size))
  have BF1 := Lib.hid (Below.keep hb (lt_of_block BF0.out) BF0.out)
  have FL1 := Lib.hid (FL0.out.below hb (Nat.le_trans hB BE0.out.size))
  clear hb
  have f0 : w1.cell? ⟨w.heap.size, 0, none⟩ = some (.slice Ap f.pool.length cp) := cells_of BF1.out 0
  have f1 : w1.cell? ⟨w.heap.size, 1, none⟩ = some (.int .i64 f.fl) := cells_of BF1.out 1
  have f2 : w1.cell? ⟨w.heap.size, 2, none⟩ = some (.int .i64 f.this) := cells_of BF1.out 2
  have f3 : w1.cell? ⟨w.heap.size, 3, none⟩ = some (.int .i64 f.super) := cells_of BF1.out 3
  have f4 : w1.cell? ⟨w.heap.size, 4, none⟩ = some (.slice Ai f.ifs.length ci) := cells_of BF1.out 4
  have f5 : w1.cell? ⟨w.heap.size, 5, none⟩ = some (.slice Af f.fds.length cf) := cells_of BF1.out 5
  have f6 : w1.cell? ⟨w.heap.size, 6, none⟩ = some (.slice Am f.mts.length cm) := cells_of BF1.out 6
  have ltf := lt_of_block BF1.out
  go_wp2_with fail
  refine (HS.out _ _ FL1.out (Nat.le_trans hB BE1.out.size)).mono ?_
  rintro e w2 ⟨rfl, hb⟩
  have BE2 := Lib.hid (BE1.out.trans (hb.mono BE1.out.size))
  have BF2 := Lib.hid (Below.keep hb (lt_of_block BF1.out) BF1.out)
  have FL2 := Lib.hid (FL1.out.below hb (Nat.le_trans hB BE1.out.size))
  clear hb
  clear f0 f1 f2 f3 f4 f5 f6 ltf
  have f0 : w2.cell? ⟨w.heap.size, 0, none⟩ = some (.slice Ap f.pool.length cp) := cells_of BF2.out 0
  have f1 : w2.cell? ⟨w.heap.size, 1, none⟩ = some (.int .i64 f.fl) := cells_of BF2.out 1
  have f2 : w2.cell? ⟨w.heap.size, 2, none⟩ = some (.int .i64 f.this) := cells_of BF2.out 2
  have f3 : w2.cell? ⟨w.heap.size, 3, none⟩ = some (.int .i64 f.super) := cells_of BF2.out 3
  have f4 : w2.cell? ⟨w.heap.size, 4, none⟩ = some (.slice Ai f.ifs.length ci) := cells_of BF2.out 4
  have f5 : w2.cell? ⟨w.heap.size, 5, none⟩ = some (.slice Af f.fds.length cf) := cells_of BF2.out 5
  have f6 : w2.cell? ⟨w.heap.size, 6, none⟩ = some (.slice Am f.mts.length cm) := cells_of BF2.out 6
  have ltf := lt_of_block BF2.out
  go_wp2_with fail
  refine (HEN.out _ _ FL2.out (Nat.le_trans hB BE2.out.size)).mono ?_
  rintro e w3 ⟨rfl, hb⟩
  have BE3 := Lib.hid (BE2.out.trans (hb.mono BE2.out.size))
  have BF3 := Lib.hid (Below.keep hb (lt_of_block BF2.out) BF2.out)
  have FL3 := Lib.hid (FL2.out.below hb (Nat.le_trans hB BE2.out.size))
  clear hb
  clear f0 f1 f2 f3 f4 f5 f6 ltf
  cases S
  · go_wp2
    go_ret
    exact ⟨rfl, BE3.out⟩
  rcases Classical.em (E = 0) with hE | hE
  rotate_left
  · have z1 : (E == 0) = false := by simpa using hE
    have z2 : (E != 0) = true := by simpa using hE
    clear hE
    go_wp2
    go_ret
    exact ⟨rfl, BE3.out⟩
  subst hE
  have hpos := HPOS.out rfl
  rcases Classical.em (4000 < T.size) with hl | hl
  · have hl' : (4000 : Int) < T.size := by omega
    clear hl hpos
    go_wp2
    go_ret
    exact ⟨rfl, BE3.out⟩
  have hl' : (T.size : Int) ≤ 4000 := by omega
  rcases Classical.em (z = 0) with hz0 | hz0
  · subst hz0
    clear hl hpos
    go_wp2
    go_ret
    exact ⟨rfl, BE3.out⟩
  have zz1 : ((z : Int) == 0) = false := by rw [beq_eq_false_iff_ne]; omega
  obtain ⟨k, hk⟩ : ∃ k, k = (ai.tmod (T.size : Int)).natAbs := ⟨_, rfl⟩
  have hkT : k < T.size := by
    rw [hk, Int.natAbs_tmod]
    exact Nat.mod_lt _ (by omega)
  have hkk : ai.tmod (T.size : Int) = k ∨ ai.tmod (T.size : Int) = -(k : Int) ∧ 0 < k := by omega
  have HSZ := Lib.hid (size_L T)
  obtain ⟨x, hx⟩ : ∃ x, (L T)[k]? = some x := ⟨_, List.getElem?_eq_getElem (by rw [← size_L]; exact hkT)⟩
  have HX := Lib.hid hx
  have hx256 : x.toNat < 256 := x.toNat_lt
  have HXR := Lib.hid (xor_u8 x.toNat z hx256 hz)
  have hcv := run_bytes_of_string (P := Try.prog) w3 9 49 5 T Try.underlying9 Try.underlying49 Try.underlying5
  have HBB := Lib.hid ((Below.refl w3.heap.size w3).drew.alloc (Nat.le_refl _) (.cells (bytesRow T (grownCap w3 T.size 0 5)) 5 ((bytesRow T (grownCap w3 T.size 0 5)).size, (bytesRow T (grownCap w3 T.size 0 5)).size + 1)))
  have HRW := Lib.hid (fun j b hb => bytesRow_at w3.drew T (grownCap w3 T.size 0 5) ((bytesRow T (grownCap w3 T.size 0 5)).size, (bytesRow T (grownCap w3 T.size 0 5)).size + 1) j b hb)
  have HFZ := Lib.hid (show (w3.drew.alloc (.cells (bytesRow T (grownCap w3 T.size 0 5)) 5 ((bytesRow T (grownCap w3 T.size 0 5)).size, (bytesRow T (grownCap w3 T.size 0 5)).size + 1))).frozen? ⟨w3.heap.size, k, none⟩ = false by
    have h1 : (w3.drew.alloc (.cells (bytesRow T (grownCap w3 T.size 0 5)) 5 ((bytesRow T (grownCap w3 T.size 0 5)).size, (bytesRow T (grownCap w3 T.size 0 5)).size + 1))).heap[w3.heap.size]? = _ := heap_new w3.drew _
    have h2 : T.size ≤ (bytesRow T (grownCap w3 T.size 0 5)).size := by
      unfold bytesRow
      rw [Array.size_append, Array.size_map]
      exact Nat.le_add_right _ _
    unfold World.frozen?
    rw [h1]
    simp only [Bool.and_eq_false_iff, decide_eq_false_iff_not]
    exact .inl (by omega))
  generalize w3.drew.alloc (.cells (bytesRow T (grownCap w3 T.size 0 5)) 5 ((bytesRow T (grownCap w3 T.size 0 5)).size, (bytesRow T (grownCap w3 T.size 0 5)).size + 1)) = wc at hcv HBB HRW HFZ
  generalize grownCap w3 T.size 0 5 = cap at hcv
  obtain ⟨bc, hbc⟩ : ∃ bc, bc = w3.heap.size := ⟨_, rfl⟩
  have hw3 := BE3.out.size
  have hcb : w.heap.size ≤ bc := by omega
  have hc0 : wc.cell? ⟨w3.heap.size, k, none⟩ = some (.int .u8 (x.toNat : Int)) := HRW.out k x hx
  have hfz := HFZ.out
  have hcw : bc < wc.heap.size := by rw [hbc]; exact World.block_lt_of_cell? _ _ hc0
  have HCS := Lib.hid (turned_cells (b := w3.heap.size) hx hz (fun j y hy => HRW.out j y hy))
  have HLE := Lib.hid (turn_len (L T) k z)
  have hcs := HCS.out
  rw [← HXR.out] at hcs
  have HCS := Lib.hid hcs
  clear hcs
  have BEC := Lib.hid (Below.setCell (p := ⟨bc, k, none⟩) (BE3.out.trans (HBB.out.mono BE3.out.size)) hcb (.int .u8 (bits .xor .u8 (x.toNat : Int) (z : Int))))
  have BFC := Lib.hid (heap_setCell_ne (p := ⟨bc, k, none⟩) (u := .int .u8 (bits .xor .u8 (x.toNat : Int) (z : Int))) (show w.heap.size ≠ bc by have := lt_of_block BF3.out; omega) (Below.keep HBB.out (lt_of_block BF3.out) BF3.out))
  have FLC := Lib.hid (show FileAt B (wc.setCell ⟨bc, k, none⟩ (.int .u8 (bits .xor .u8 (x.toNat : Int) (z : Int)))) _ f from (FL3.out.below HBB.out (Nat.le_trans hB hw3)).keep fun p hp => World.cell?_setCell_other _ _ _ _ (fun e => by rw [← e] at hp; simp at hp; omega))
  rw [← hbc] at hcv hc0 hfz HCS
  clear hbc hx HRW HFZ HBB BF0 FL0 BF1 FL1 BF2 FL2 BE0 BE1 BE2 HS hw3
  have HTS := Lib.hid (show (turnL (L T) k z).length = T.size by rw [turn_len, ← size_L])
  have hcvb : (convert 49 9 (.slice (some ⟨bc, 0, none⟩) T.size cap)).run Try.prog (wc.setCell ⟨bc, k, none⟩ (.int .u8 (bits .xor .u8 (x.toNat : Int) (z : Int)))) = .ok (.string (mkB (turnL (L T) k z))) (wc.setCell ⟨bc, k, none⟩ (.int .u8 (bits .xor .u8 (x.toNat : Int) (z : Int)))) := by
    have := run_convert_bytes_back (P := Try.prog) (wc.setCell ⟨bc, k, none⟩ (.int .u8 (bits .xor .u8 (x.toNat : Int) (z : Int)))) 49 9 5 ⟨bc, 0, none⟩ cap (turnL (L T) k z) Try.underlying49 Try.underlying5 Try.underlying9 (fun j hj => by
      rw [plain_add, Nat.zero_add]
      exact HCS.out j _ (List.getElem?_eq_getElem hj))
    rwa [HTS.out] at this
  have HP := Lib.hid (fun W => Parse_any (mkB (turnL (L T) k z)) (by show (turnL (L T) k z).length ≤ _; rw [HTS.out]; omega) W)
  have HPL := Lib.hid (show L (mkB (turnL (L T) k z)) = turnL (L T) k z from rfl)
  rcases hkk with hkk | ⟨hkk, hk0⟩
  · clear hk
    have hki : (k : Int) < (T.size : Int) := by omega
    rw [HPL.out] at HP
    rcases Classical.em (prsE (turnL (L T) k z) = 0) with hp | hp
    · obtain ⟨hp1, hp2, hp3⟩ := prs_good hp
      have HNE := Lib.hid (HTF.out _ _ _ HX.out hz0 hp2)
      have HET := Lib.hid (show encT (prsF (turnL (L T) k z)) = mkB (turnL (L T) k z) by rw [← mkB_L (encT (prsF (turnL (L T) k z))), hp2])
      rw [hp] at HP
      generalize prsF (turnL (L T) k z) = g at *
      have HEG := Lib.hid (fun B V W (hW : FileAt B W V g) hWB => Encode_file (B := B) g V W hW hWB hp3)
      rw [HET.out, hp1] at HEG
      clear hp hp1 hp2 hp3
      go_wp2_with fail
      refine (HP.out _).mono ?_
      rintro e w4 ⟨a0, c0, a4, c4, a5, c5, a6, c6, rfl, hown, hb⟩
      unfold flV
      have hcw4 : bc < (wc.setCell ⟨bc, k, none⟩ (.int .u8 (bits .xor .u8 (x.toNat : Int) (z : Int)))).heap.size := by simpa [World.setCell] using hcw
      have HCS4 := Lib.hid (fun j y hy => (hb.cell (p := ⟨bc, j, none⟩) hcw4).trans (HCS.out j y hy))
      have BE4 := Lib.hid (BEC.out.trans (hb.mono BEC.out.size))
      have BF4 := Lib.hid (Below.keep hb (lt_of_block BFC.out) BFC.out)
      have FL4 := Lib.hid (FLC.out.below hb (Nat.le_trans hB BEC.out.size))
      have OW := Lib.hid (hown.alloc (.cells #[.slice a0 g.pool.length c0, .int .i64 g.fl, .int .i64 g.this, .int .i64 g.super, .slice a4 g.ifs.length c4, .slice a5 g.fds.length c5, .slice a6 g.mts.length c6] 26))
      have FG := Lib.hid (OW.out.fileAt)
      have BG := Lib.hid (heap_new w4 (.cells #[.slice a0 g.pool.length c0, .int .i64 g.fl, .int .i64 g.this, .int .i64 g.super, .slice a4 g.ifs.length c4, .slice a5 g.fds.length c5, .slice a6 g.mts.length c6] 26))
      have BE5 := Lib.hid (BE4.out.alloc BE4.out.size (.cells #[.slice a0 g.pool.length c0, .int .i64 g.fl, .int .i64 g.this, .int .i64 g.super, .slice a4 g.ifs.length c4, .slice a5 g.fds.length c5, .slice a6 g.mts.length c6] 26))
      have BF5 := Lib.hid (heap_alloc_lt (o := (.cells #[.slice a0 g.pool.length c0, .int .i64 g.fl, .int .i64 g.this, .int .i64 g.super, .slice a4 g.ifs.length c4, .slice a5 g.fds.length c5, .slice a6 g.mts.length c6] 26)) BF4.out)
      have FL5 := Lib.hid (show FileAt w4.heap.size (w4.alloc (.cells #[.slice a0 g.pool.length c0, .int .i64 g.fl, .int .i64 g.this, .int .i64 g.super, .slice a4 g.ifs.length c4, .slice a5 g.fds.length c5, .slice a6 g.mts.length c6] 26)) _ f from (FL4.out.more (Nat.le_trans hB BE4.out.size)).alloc (Nat.le_refl _) (.cells #[.slice a0 g.pool.length c0, .int .i64 g.fl, .int .i64 g.this, .int .i64 g.super, .slice a4 g.ifs.length c4, .slice a5 g.fds.length c5, .slice a6 g.mts.length c6] 26))
      have HCS5 := Lib.hid (fun j y hy => (World.cell?_alloc_lt w4 (.cells #[.slice a0 g.pool.length c0, .int .i64 g.fl, .int .i64 g.this, .int .i64 g.super, .slice a4 g.ifs.length c4, .slice a5 g.fds.length c5, .slice a6 g.mts.length c6] 26) ⟨bc, j, none⟩ (Nat.lt_of_lt_of_le hcw4 hb.size)).trans (HCS4.out j y hy))
      have hcw5 : bc < w4.heap.size := Nat.lt_of_lt_of_le hcw4 hb.size
      clear hown hb
      have HSF := Lib.hid (SameFile_any (B := w4.heap.size + 1) f g _ _ _ (FL5.out.more (by omega)) (by have := FG.out; unfold flV at this; rwa [show (w4.alloc (.cells #[.slice a0 g.pool.length c0, .int .i64 g.fl, .int .i64 g.this, .int .i64 g.super, .slice a4 g.ifs.length c4, .slice a5 g.fds.length c5, .slice a6 g.mts.length c6] 26)).heap.size = w4.heap.size + 1 by simp] at this) (by simp))
      have f0 : (w4.alloc (.cells #[.slice a0 g.pool.length c0, .int .i64 g.fl, .int .i64 g.this, .int .i64 g.super, .slice a4 g.ifs.length c4, .slice a5 g.fds.length c5, .slice a6 g.mts.length c6] 26)).cell? ⟨w.heap.size, 0, none⟩ = some (.slice Ap f.pool.length cp) := cells_of BF5.out 0
      have f1 : (w4.alloc (.cells #[.slice a0 g.pool.length c0, .int .i64 g.fl, .int .i64 g.this, .int .i64 g.super, .slice a4 g.ifs.length c4, .slice a5 g.fds.length c5, .slice a6 g.mts.length c6] 26)).cell? ⟨w.heap.size, 1, none⟩ = some (.int .i64 f.fl) := cells_of BF5.out 1
      have f2 : (w4.alloc (.cells #[.slice a0 g.pool.length c0, .int .i64 g.fl, .int .i64 g.this, .int .i64 g.super, .slice a4 g.ifs.length c4, .slice a5 g.fds.length c5, .slice a6 g.mts.length c6] 26)).cell? ⟨w.heap.size, 2, none⟩ = some (.int .i64 f.this) := cells_of BF5.out 2
      have f3 : (w4.alloc (.cells #[.slice a0 g.pool.length c0, .int .i64 g.fl, .int .i64 g.this, .int .i64 g.super, .slice a4 g.ifs.length c4, .slice a5 g.fds.length c5, .slice a6 g.mts.length c6] 26)).cell? ⟨w.heap.size, 3, none⟩ = some (.int .i64 f.super) := cells_of BF5.out 3
      have f4 : (w4.alloc (.cells #[.slice a0 g.pool.length c0, .int .i64 g.fl, .int .i64 g.this, .int .i64 g.super, .slice a4 g.ifs.length c4, .slice a5 g.fds.length c5, .slice a6 g.mts.length c6] 26)).cell? ⟨w.heap.size, 4, none⟩ = some (.slice Ai f.ifs.length ci) := cells_of BF5.out 4
      have f5 : (w4.alloc (.cells #[.slice a0 g.pool.length c0, .int .i64 g.fl, .int .i64 g.this, .int .i64 g.super, .slice a4 g.ifs.length c4, .slice a5 g.fds.length c5, .slice a6 g.mts.length c6] 26)).cell? ⟨w.heap.size, 5, none⟩ = some (.slice Af f.fds.length cf) := cells_of BF5.out 5
      have f6 : (w4.alloc (.cells #[.slice a0 g.pool.length c0, .int .i64 g.fl, .int .i64 g.this, .int .i64 g.super, .slice a4 g.ifs.length c4, .slice a5 g.fds.length c5, .slice a6 g.mts.length c6] 26)).cell? ⟨w.heap.size, 6, none⟩ = some (.slice Am f.mts.length cm) := cells_of BF5.out 6
      have ltf := lt_of_block BF5.out
      have g0 : (w4.alloc (.cells #[.slice a0 g.pool.length c0, .int .i64 g.fl, .int .i64 g.this, .int .i64 g.super, .slice a4 g.ifs.length c4, .slice a5 g.fds.length c5, .slice a6 g.mts.length c6] 26)).cell? ⟨w4.heap.size, 0, none⟩ = some (.slice a0 g.pool.length c0) := cells_of BG.out 0
      have g1 : (w4.alloc (.cells #[.slice a0 g.pool.length c0, .int .i64 g.fl, .int .i64 g.this, .int .i64 g.super, .slice a4 g.ifs.length c4, .slice a5 g.fds.length c5, .slice a6 g.mts.length c6] 26)).cell? ⟨w4.heap.size, 1, none⟩ = some (.int .i64 g.fl) := cells_of BG.out 1
      have g2 : (w4.alloc (.cells #[.slice a0 g.pool.length c0, .int .i64 g.fl, .int .i64 g.this, .int .i64 g.super, .slice a4 g.ifs.length c4, .slice a5 g.fds.length c5, .slice a6 g.mts.length c6] 26)).cell? ⟨w4.heap.size, 2, none⟩ = some (.int .i64 g.this) := cells_of BG.out 2
      have g3 : (w4.alloc (.cells #[.slice a0 g.pool.length c0, .int .i64 g.fl, .int .i64 g.this, .int .i64 g.super, .slice a4 g.ifs.length c4, .slice a5 g.fds.length c5, .slice a6 g.mts.length c6] 26)).cell? ⟨w4.heap.size, 3, none⟩ = some (.int .i64 g.super) := cells_of BG.out 3
      have g4 : (w4.alloc (.cells #[.slice a0 g.pool.length c0, .int .i64 g.fl, .int .i64 g.this, .int .i64 g.super, .slice a4 g.ifs.length c4, .slice a5 g.fds.length c5, .slice a6 g.mts.length c6] 26)).cell? ⟨w4.heap.size, 4, none⟩ = some (.slice a4 g.ifs.length c4) := cells_of BG.out 4
      have g5 : (w4.alloc (.cells #[.slice a0 g.pool.length c0, .int .i64 g.fl, .int .i64 g.this, .int .i64 g.super, .slice a4 g.ifs.length c4, .slice a5 g.fds.length c5, .slice a6 g.mts.length c6] 26)).cell? ⟨w4.heap.size, 5, none⟩ = some (.slice a5 g.fds.length c5) := cells_of BG.out 5
      have g6 : (w4.alloc (.cells #[.slice a0 g.pool.length c0, .int .i64 g.fl, .int .i64 g.this, .int .i64 g.super, .slice a4 g.ifs.length c4, .slice a5 g.fds.length c5, .slice a6 g.mts.length c6] 26)).cell? ⟨w4.heap.size, 6, none⟩ = some (.slice a6 g.mts.length c6) := cells_of BG.out 6
      have ltg := lt_of_block BG.out
      go_wp2_with fail
      refine (HSF.out).mono ?_
      rintro e w6 ⟨r, rfl, hr, hb⟩
      clear f0 f1 f2 f3 f4 f5 f6 ltf
      clear g0 g1 g2 g3 g4 g5 g6 ltg
      have BE6 := Lib.hid (BE5.out.trans (hb.mono BE5.out.size))
      have BG6 := Lib.hid (Below.keep hb (lt_of_block BG.out) BG.out)
      have HCS6 := Lib.hid (fun j y hy => (hb.cell (p := ⟨bc, j, none⟩) (by simp; omega)).trans (HCS5.out j y hy))
      have FG6 := Lib.hid (FG.out.below hb (Nat.le_refl _))
      have hs6 := hb.size
      have hcw6 : bc < w6.heap.size := by have := hb.size; simp at this; omega
      have HR := Lib.hid hr
      clear hb hr
      have g0 : w6.cell? ⟨w4.heap.size, 0, none⟩ = some (.slice a0 g.pool.length c0) := cells_of BG6.out 0
      have g1 : w6.cell? ⟨w4.heap.size, 1, none⟩ = some (.int .i64 g.fl) := cells_of BG6.out 1
      have g2 : w6.cell? ⟨w4.heap.size, 2, none⟩ = some (.int .i64 g.this) := cells_of BG6.out 2
      have g3 : w6.cell? ⟨w4.heap.size, 3, none⟩ = some (.int .i64 g.super) := cells_of BG6.out 3
      have g4 : w6.cell? ⟨w4.heap.size, 4, none⟩ = some (.slice a4 g.ifs.length c4) := cells_of BG6.out 4
      have g5 : w6.cell? ⟨w4.heap.size, 5, none⟩ = some (.slice a5 g.fds.length c5) := cells_of BG6.out 5
      have g6 : w6.cell? ⟨w4.heap.size, 6, none⟩ = some (.slice a6 g.mts.length c6) := cells_of BG6.out 6
      have ltg := lt_of_block BG6.out
      have hr0 : r = false := by
        cases r
        · rfl
        · exact absurd (HR.out.1 rfl) HNE.out
      subst hr0
      go_wp2_with fail
      refine (HEG.out _ _ _ (by have := FG6.out; unfold flV at this; exact this) hs6).mono ?_
      rintro e w7 ⟨rfl, hb⟩
      have BE7 := Lib.hid (BE6.out.trans (hb.mono BE6.out.size))
      have hcvc : (convert 49 9 (.slice (some ⟨bc, 0, none⟩) T.size cap)).run Try.prog w7 = .ok (.string (mkB (turnL (L T) k z))) w7 := by
        have := run_convert_bytes_back (P := Try.prog) w7 49 9 5 ⟨bc, 0, none⟩ cap (turnL (L T) k z) Try.underlying49 Try.underlying5 Try.underlying9 (fun j hj => by
          rw [plain_add, Nat.zero_add]
          exact (hb.cell (p := ⟨bc, j, none⟩) hcw6).trans (HCS6.out j _ (List.getElem?_eq_getElem hj)))
        rwa [HTS.out] at this
      clear g0 g1 g2 g3 g4 g5 g6 ltg
      clear hb
      go_wp2
      go_ret
      exact ⟨rfl, BE7.out⟩
    · have z1 : (prsE (turnL (L T) k z) == 0) = false := by simpa using hp
      have z2 : (prsE (turnL (L T) k z) != 0) = true := by simpa using hp
      have hg0 := prs_bad hp
      generalize prsE (turnL (L T) k z) = E2 at *
      obtain ⟨g, hg⟩ : ∃ g, g = prsF (turnL (L T) k z) := ⟨_, rfl⟩
      rw [← hg] at HP hg0
      have HGP := Lib.hid (show g.pool.length = 0 by rw [hg0]; rfl)
      have HGT := Lib.hid (show g.this = 0 by rw [hg0]; rfl)
      clear hp hg hg0
      go_wp2_with fail
      refine (HP.out _).mono ?_
      rintro e w4 ⟨a0, c0, a4, c4, a5, c5, a6, c6, rfl, hown, hb⟩
      unfold flV
      have hcw4 : bc < (wc.setCell ⟨bc, k, none⟩ (.int .u8 (bits .xor .u8 (x.toNat : Int) (z : Int)))).heap.size := by simpa [World.setCell] using hcw
      have HCS4 := Lib.hid (fun j y hy => (hb.cell (p := ⟨bc, j, none⟩) hcw4).trans (HCS.out j y hy))
      have BE4 := Lib.hid (BEC.out.trans (hb.mono BEC.out.size))
      have BF4 := Lib.hid (Below.keep hb (lt_of_block BFC.out) BFC.out)
      have FL4 := Lib.hid (FLC.out.below hb (Nat.le_trans hB BEC.out.size))
      have OW := Lib.hid (hown.alloc (.cells #[.slice a0 g.pool.length c0, .int .i64 g.fl, .int .i64 g.this, .int .i64 g.super, .slice a4 g.ifs.length c4, .slice a5 g.fds.length c5, .slice a6 g.mts.length c6] 26))
      have FG := Lib.hid (OW.out.fileAt)
      have BG := Lib.hid (heap_new w4 (.cells #[.slice a0 g.pool.length c0, .int .i64 g.fl, .int .i64 g.this, .int .i64 g.super, .slice a4 g.ifs.length c4, .slice a5 g.fds.length c5, .slice a6 g.mts.length c6] 26))
      have BE5 := Lib.hid (BE4.out.alloc BE4.out.size (.cells #[.slice a0 g.pool.length c0, .int .i64 g.fl, .int .i64 g.this, .int .i64 g.super, .slice a4 g.ifs.length c4, .slice a5 g.fds.length c5, .slice a6 g.mts.length c6] 26))
      have BF5 := Lib.hid (heap_alloc_lt (o := (.cells #[.slice a0 g.pool.length c0, .int .i64 g.fl, .int .i64 g.this, .int .i64 g.super, .slice a4 g.ifs.length c4, .slice a5 g.fds.length c5, .slice a6 g.mts.length c6] 26)) BF4.out)
      have FL5 := Lib.hid (show FileAt w4.heap.size (w4.alloc (.cells #[.slice a0 g.pool.length c0, .int .i64 g.fl, .int .i64 g.this, .int .i64 g.super, .slice a4 g.ifs.length c4, .slice a5 g.fds.length c5, .slice a6 g.mts.length c6] 26)) _ f from (FL4.out.more (Nat.le_trans hB BE4.out.size)).alloc (Nat.le_refl _) (.cells #[.slice a0 g.pool.length c0, .int .i64 g.fl, .int .i64 g.this, .int .i64 g.super, .slice a4 g.ifs.length c4, .slice a5 g.fds.length c5, .slice a6 g.mts.length c6] 26))
      have HCS5 := Lib.hid (fun j y hy => (World.cell?_alloc_lt w4 (.cells #[.slice a0 g.pool.length c0, .int .i64 g.fl, .int .i64 g.this, .int .i64 g.super, .slice a4 g.ifs.length c4, .slice a5 g.fds.length c5, .slice a6 g.mts.length c6] 26) ⟨bc, j, none⟩ (Nat.lt_of_lt_of_le hcw4 hb.size)).trans (HCS4.out j y hy))
      have hcw5 : bc < w4.heap.size := Nat.lt_of_lt_of_le hcw4 hb.size
      clear hown hb
      have HSF := Lib.hid (SameFile_any (B := w4.heap.size + 1) f g _ _ _ (FL5.out.more (by omega)) (by have := FG.out; unfold flV at this; rwa [show (w4.alloc (.cells #[.slice a0 g.pool.length c0, .int .i64 g.fl, .int .i64 g.this, .int .i64 g.super, .slice a4 g.ifs.length c4, .slice a5 g.fds.length c5, .slice a6 g.mts.length c6] 26)).heap.size = w4.heap.size + 1 by simp] at this) (by simp))
      have f0 : (w4.alloc (.cells #[.slice a0 g.pool.length c0, .int .i64 g.fl, .int .i64 g.this, .int .i64 g.super, .slice a4 g.ifs.length c4, .slice a5 g.fds.length c5, .slice a6 g.mts.length c6] 26)).cell? ⟨w.heap.size, 0, none⟩ = some (.slice Ap f.pool.length cp) := cells_of BF5.out 0
      have f1 : (w4.alloc (.cells #[.slice a0 g.pool.length c0, .int .i64 g.fl, .int .i64 g.this, .int .i64 g.super, .slice a4 g.ifs.length c4, .slice a5 g.fds.length c5, .slice a6 g.mts.length c6] 26)).cell? ⟨w.heap.size, 1, none⟩ = some (.int .i64 f.fl) := cells_of BF5.out 1
      have f2 : (w4.alloc (.cells #[.slice a0 g.pool.length c0, .int .i64 g.fl, .int .i64 g.this, .int .i64 g.super, .slice a4 g.ifs.length c4, .slice a5 g.fds.length c5, .slice a6 g.mts.length c6] 26)).cell? ⟨w.heap.size, 2, none⟩ = some (.int .i64 f.this) := cells_of BF5.out 2
      have f3 : (w4.alloc (.cells #[.slice a0 g.pool.length c0, .int .i64 g.fl, .int .i64 g.this, .int .i64 g.super, .slice a4 g.ifs.length c4, .slice a5 g.fds.length c5, .slice a6 g.mts.length c6] 26)).cell? ⟨w.heap.size, 3, none⟩ = some (.int .i64 f.super) := cells_of BF5.out 3
      have f4 : (w4.alloc (.cells #[.slice a0 g.pool.length c0, .int .i64 g.fl, .int .i64 g.this, .int .i64 g.super, .slice a4 g.ifs.length c4, .slice a5 g.fds.length c5, .slice a6 g.mts.length c6] 26)).cell? ⟨w.heap.size, 4, none⟩ = some (.slice Ai f.ifs.length ci) := cells_of BF5.out 4
      have f5 : (w4.alloc (.cells #[.slice a0 g.pool.length c0, .int .i64 g.fl, .int .i64 g.this, .int .i64 g.super, .slice a4 g.ifs.length c4, .slice a5 g.fds.length c5, .slice a6 g.mts.length c6] 26)).cell? ⟨w.heap.size, 5, none⟩ = some (.slice Af f.fds.length cf) := cells_of BF5.out 5
      have f6 : (w4.alloc (.cells #[.slice a0 g.pool.length c0, .int .i64 g.fl, .int .i64 g.this, .int .i64 g.super, .slice a4 g.ifs.length c4, .slice a5 g.fds.length c5, .slice a6 g.mts.length c6] 26)).cell? ⟨w.heap.size, 6, none⟩ = some (.slice Am f.mts.length cm) := cells_of BF5.out 6
      have ltf := lt_of_block BF5.out
      have g0 : (w4.alloc (.cells #[.slice a0 g.pool.length c0, .int .i64 g.fl, .int .i64 g.this, .int .i64 g.super, .slice a4 g.ifs.length c4, .slice a5 g.fds.length c5, .slice a6 g.mts.length c6] 26)).cell? ⟨w4.heap.size, 0, none⟩ = some (.slice a0 g.pool.length c0) := cells_of BG.out 0
      have g1 : (w4.alloc (.cells #[.slice a0 g.pool.length c0, .int .i64 g.fl, .int .i64 g.this, .int .i64 g.super, .slice a4 g.ifs.length c4, .slice a5 g.fds.length c5, .slice a6 g.mts.length c6] 26)).cell? ⟨w4.heap.size, 1, none⟩ = some (.int .i64 g.fl) := cells_of BG.out 1
      have g2 : (w4.alloc (.cells #[.slice a0 g.pool.length c0, .int .i64 g.fl, .int .i64 g.this, .int .i64 g.super, .slice a4 g.ifs.length c4, .slice a5 g.fds.length c5, .slice a6 g.mts.length c6] 26)).cell? ⟨w4.heap.size, 2, none⟩ = some (.int .i64 g.this) := cells_of BG.out 2
      have g3 : (w4.alloc (.cells #[.slice a0 g.pool.length c0, .int .i64 g.fl, .int .i64 g.this, .int .i64 g.super, .slice a4 g.ifs.length c4, .slice a5 g.fds.length c5, .slice a6 g.mts.length c6] 26)).cell? ⟨w4.heap.size, 3, none⟩ = some (.int .i64 g.super) := cells_of BG.out 3
      have g4 : (w4.alloc (.cells #[.slice a0 g.pool.length c0, .int .i64 g.fl, .int .i64 g.this, .int .i64 g.super, .slice a4 g.ifs.length c4, .slice a5 g.fds.length c5, .slice a6 g.mts.length c6] 26)).cell? ⟨w4.heap.size, 4, none⟩ = some (.slice a4 g.ifs.length c4) := cells_of BG.out 4
      have g5 : (w4.alloc (.cells #[.slice a0 g.pool.length c0, .int .i64 g.fl, .int .i64 g.this, .int .i64 g.super, .slice a4 g.ifs.length c4, .slice a5 g.fds.length c5, .slice a6 g.mts.length c6] 26)).cell? ⟨w4.heap.size, 5, none⟩ = some (.slice a5 g.fds.length c5) := cells_of BG.out 5
      have g6 : (w4.alloc (.cells #[.slice a0 g.pool.length c0, .int .i64 g.fl, .int .i64 g.this, .int .i64 g.super, .slice a4 g.ifs.length c4, .slice a5 g.fds.length c5, .slice a6 g.mts.length c6] 26)).cell? ⟨w4.heap.size, 6, none⟩ = some (.slice a6 g.mts.length c6) := cells_of BG.out 6
      have ltg := lt_of_block BG.out
      go_wp2_with fail
      refine (HSF.out).mono ?_
      rintro e w6 ⟨r, rfl, hr, hb⟩
      clear f0 f1 f2 f3 f4 f5 f6 ltf
      clear g0 g1 g2 g3 g4 g5 g6 ltg
      have BE6 := Lib.hid (BE5.out.trans (hb.mono BE5.out.size))
      have BG6 := Lib.hid (Below.keep hb (lt_of_block BG.out) BG.out)
      have HCS6 := Lib.hid (fun j y hy => (hb.cell (p := ⟨bc, j, none⟩) (by simp; omega)).trans (HCS5.out j y hy))
      have FG6 := Lib.hid (FG.out.below hb (Nat.le_refl _))
      have hs6 := hb.size
      have hcw6 : bc < w6.heap.size := by have := hb.size; simp at this; omega
      have HR := Lib.hid hr
      clear hb hr
      have g0 : w6.cell? ⟨w4.heap.size, 0, none⟩ = some (.slice a0 g.pool.length c0) := cells_of BG6.out 0
      have g1 : w6.cell? ⟨w4.heap.size, 1, none⟩ = some (.int .i64 g.fl) := cells_of BG6.out 1
      have g2 : w6.cell? ⟨w4.heap.size, 2, none⟩ = some (.int .i64 g.this) := cells_of BG6.out 2
      have g3 : w6.cell? ⟨w4.heap.size, 3, none⟩ = some (.int .i64 g.super) := cells_of BG6.out 3
      have g4 : w6.cell? ⟨w4.heap.size, 4, none⟩ = some (.slice a4 g.ifs.length c4) := cells_of BG6.out 4
      have g5 : w6.cell? ⟨w4.heap.size, 5, none⟩ = some (.slice a5 g.fds.length c5) := cells_of BG6.out 5
      have g6 : w6.cell? ⟨w4.heap.size, 6, none⟩ = some (.slice a6 g.mts.length c6) := cells_of BG6.out 6
      have ltg := lt_of_block BG6.out
      rw [HGP.out] at g0
      rw [HGT.out] at g2
      go_wp2
      go_ret
      exact ⟨rfl, BE6.out⟩
  · clear hk
    have hki : (k : Int) < (T.size : Int) := by omega
    have hkn : -(k : Int) < 0 := by omega
    rw [HPL.out] at HP
    rcases Classical.em (prsE (turnL (L T) k z) = 0) with hp | hp
    · obtain ⟨hp1, hp2, hp3⟩ := prs_good hp
      have HNE := Lib.hid (HTF.out _ _ _ HX.out hz0 hp2)
      have HET := Lib.hid (show encT (prsF (turnL (L T) k z)) = mkB (turnL (L T) k z) by rw [← mkB_L (encT (prsF (turnL (L T) k z))), hp2])
      rw [hp] at HP
      generalize prsF (turnL (L T) k z) = g at *
      have HEG := Lib.hid (fun B V W (hW : FileAt B W V g) hWB => Encode_file (B := B) g V W hW hWB hp3)
      rw [HET.out, hp1] at HEG
      clear hp hp1 hp2 hp3
      go_wp2_with fail
      refine (HP.out _).mono ?_
      rintro e w4 ⟨a0, c0, a4, c4, a5, c5, a6, c6, rfl, hown, hb⟩
      unfold flV
      have hcw4 : bc < (wc.setCell ⟨bc, k, none⟩ (.int .u8 (bits .xor .u8 (x.toNat : Int) (z : Int)))).heap.size := by simpa [World.setCell] using hcw
      have HCS4 := Lib.hid (fun j y hy => (hb.cell (p := ⟨bc, j, none⟩) hcw4).trans (HCS.out j y hy))
      have BE4 := Lib.hid (BEC.out.trans (hb.mono BEC.out.size))
      have BF4 := Lib.hid (Below.keep hb (lt_of_block BFC.out) BFC.out)
      have FL4 := Lib.hid (FLC.out.below hb (Nat.le_trans hB BEC.out.size))
      have OW := Lib.hid (hown.alloc (.cells #[.slice a0 g.pool.length c0, .int .i64 g.fl, .int .i64 g.this, .int .i64 g.super, .slice a4 g.ifs.length c4, .slice a5 g.fds.length c5, .slice a6 g.mts.length c6] 26))
      have FG := Lib.hid (OW.out.fileAt)
      have BG := Lib.hid (heap_new w4 (.cells #[.slice a0 g.pool.length c0, .int .i64 g.fl, .int .i64 g.this, .int .i64 g.super, .slice a4 g.ifs.length c4, .slice a5 g.fds.length c5, .slice a6 g.mts.length c6] 26))
      have BE5 := Lib.hid (BE4.out.alloc BE4.out.size (.cells #[.slice a0 g.pool.length c0, .int .i64 g.fl, .int .i64 g.this, .int .i64 g.super, .slice a4 g.ifs.length c4, .slice a5 g.fds.length c5, .slice a6 g.mts.length c6] 26))
      have BF5 := Lib.hid (heap_alloc_lt (o := (.cells #[.slice a0 g.pool.length c0, .int .i64 g.fl, .int .i64 g.this, .int .i64 g.super, .slice a4 g.ifs.length c4, .slice a5 g.fds.length c5, .slice a6 g.mts.length c6] 26)) BF4.out)
      have FL5 := Lib.hid (show FileAt w4.heap.size (w4.alloc (.cells #[.slice a0 g.pool.length c0, .int .i64 g.fl, .int .i64 g.this, .int .i64 g.super, .slice a4 g.ifs.length c4, .slice a5 g.fds.length c5, .slice a6 g.mts.length c6] 26)) _ f from (FL4.out.more (Nat.le_trans hB BE4.out.size)).alloc (Nat.le_refl _) (.cells #[.slice a0 g.pool.length c0, .int .i64 g.fl, .int .i64 g.this, .int .i64 g.super, .slice a4 g.ifs.length c4, .slice a5 g.fds.length c5, .slice a6 g.mts.length c6] 26))
      have HCS5 := Lib.hid (fun j y hy => (World.cell?_alloc_lt w4 (.cells #[.slice a0 g.pool.length c0, .int .i64 g.fl, .int .i64 g.this, .int .i64 g.super, .slice a4 g.ifs.length c4, .slice a5 g.fds.length c5, .slice a6 g.mts.length c6] 26) ⟨bc, j, none⟩ (Nat.lt_of_lt_of_le hcw4 hb.size)).trans (HCS4.out j y hy))
      have hcw5 : bc < w4.heap.size := Nat.lt_of_lt_of_le hcw4 hb.size
      clear hown hb
      have HSF := Lib.hid (SameFile_any (B := w4.heap.size + 1) f g _ _ _ (FL5.out.more (by omega)) (by have := FG.out; unfold flV at this; rwa [show (w4.alloc (.cells #[.slice a0 g.pool.length c0, .int .i64 g.fl, .int .i64 g.this, .int .i64 g.super, .slice a4 g.ifs.length c4, .slice a5 g.fds.length c5, .slice a6 g.mts.length c6] 26)).heap.size = w4.heap.size + 1 by simp] at this) (by simp))
      have f0 : (w4.alloc (.cells #[.slice a0 g.pool.length c0, .int .i64 g.fl, .int .i64 g.this, .int .i64 g.super, .slice a4 g.ifs.length c4, .slice a5 g.fds.length c5, .slice a6 g.mts.length c6] 26)).cell? ⟨w.heap.size, 0, none⟩ = some (.slice Ap f.pool.length cp) := cells_of BF5.out 0
      have f1 : (w4.alloc (.cells #[.slice a0 g.pool.length c0, .int .i64 g.fl, .int .i64 g.this, .int .i64 g.super, .slice a4 g.ifs.length c4, .slice a5 g.fds.length c5, .slice a6 g.mts.length c6] 26)).cell? ⟨w.heap.size, 1, none⟩ = some (.int .i64 f.fl) := cells_of BF5.out 1
      have f2 : (w4.alloc (.cells #[.slice a0 g.pool.length c0, .int .i64 g.fl, .int .i64 g.this, .int .i64 g.super, .slice a4 g.ifs.length c4, .slice a5 g.fds.length c5, .slice a6 g.mts.length c6] 26)).cell? ⟨w.heap.size, 2, none⟩ = some (.int .i64 f.this) := cells_of BF5.out 2
      have f3 : (w4.alloc (.cells #[.slice a0 g.pool.length c0, .int .i64 g.fl, .int .i64 g.this, .int .i64 g.super, .slice a4 g.ifs.length c4, .slice a5 g.fds.length c5, .slice a6 g.mts.length c6] 26)).cell? ⟨w.heap.size, 3, none⟩ = some (.int .i64 f.super) := cells_of BF5.out 3
      have f4 : (w4.alloc (.cells #[.slice a0 g.pool.length c0, .int .i64 g.fl, .int .i64 g.this, .int .i64 g.super, .slice a4 g.ifs.length c4, .slice a5 g.fds.length c5, .slice a6 g.mts.length c6] 26)).cell? ⟨w.heap.size, 4, none⟩ = some (.slice Ai f.ifs.length ci) := cells_of BF5.out 4
      have f5 : (w4.alloc (.cells #[.slice a0 g.pool.length c0, .int .i64 g.fl, .int .i64 g.this, .int .i64 g.super, .slice a4 g.ifs.length c4, .slice a5 g.fds.length c5, .slice a6 g.mts.length c6] 26)).cell? ⟨w.heap.size, 5, none⟩ = some (.slice Af f.fds.length cf) := cells_of BF5.out 5
      have f6 : (w4.alloc (.cells #[.slice a0 g.pool.length c0, .int .i64 g.fl, .int .i64 g.this, .int .i64 g.super, .slice a4 g.ifs.length c4, .slice a5 g.fds.length c5, .slice a6 g.mts.length c6] 26)).cell? ⟨w.heap.size, 6, none⟩ = some (.slice Am f.mts.length cm) := cells_of BF5.out 6
      have ltf := lt_of_block BF5.out
      have g0 : (w4.alloc (.cells #[.slice a0 g.pool.length c0, .int .i64 g.fl, .int .i64 g.this, .int .i64 g.super, .slice a4 g.ifs.length c4, .slice a5 g.fds.length c5, .slice a6 g.mts.length c6] 26)).cell? ⟨w4.heap.size, 0, none⟩ = some (.slice a0 g.pool.length c0) := cells_of BG.out 0
      have g1 : (w4.alloc (.cells #[.slice a0 g.pool.length c0, .int .i64 g.fl, .int .i64 g.this, .int .i64 g.super, .slice a4 g.ifs.length c4, .slice a5 g.fds.length c5, .slice a6 g.mts.length c6] 26)).cell? ⟨w4.heap.size, 1, none⟩ = some (.int .i64 g.fl) := cells_of BG.out 1
      have g2 : (w4.alloc (.cells #[.slice a0 g.pool.length c0, .int .i64 g.fl, .int .i64 g.this, .int .i64 g.super, .slice a4 g.ifs.length c4, .slice a5 g.fds.length c5, .slice a6 g.mts.length c6] 26)).cell? ⟨w4.heap.size, 2, none⟩ = some (.int .i64 g.this) := cells_of BG.out 2
      have g3 : (w4.alloc (.cells #[.slice a0 g.pool.length c0, .int .i64 g.fl, .int .i64 g.this, .int .i64 g.super, .slice a4 g.ifs.length c4, .slice a5 g.fds.length c5, .slice a6 g.mts.length c6] 26)).cell? ⟨w4.heap.size, 3, none⟩ = some (.int .i64 g.super) := cells_of BG.out 3
      have g4 : (w4.alloc (.cells #[.slice a0 g.pool.length c0, .int .i64 g.fl, .int .i64 g.this, .int .i64 g.super, .slice a4 g.ifs.length c4, .slice a5 g.fds.length c5, .slice a6 g.mts.length c6] 26)).cell? ⟨w4.heap.size, 4, none⟩ = some (.slice a4 g.ifs.length c4) := cells_of BG.out 4
      have g5 : (w4.alloc (.cells #[.slice a0 g.pool.length c0, .int .i64 g.fl, .int .i64 g.this, .int .i64 g.super, .slice a4 g.ifs.length c4, .slice a5 g.fds.length c5, .slice a6 g.mts.length c6] 26)).cell? ⟨w4.heap.size, 5, none⟩ = some (.slice a5 g.fds.length c5) := cells_of BG.out 5
      have g6 : (w4.alloc (.cells #[.slice a0 g.pool.length c0, .int .i64 g.fl, .int .i64 g.this, .int .i64 g.super, .slice a4 g.ifs.length c4, .slice a5 g.fds.length c5, .slice a6 g.mts.length c6] 26)).cell? ⟨w4.heap.size, 6, none⟩ = some (.slice a6 g.mts.length c6) := cells_of BG.out 6
      have ltg := lt_of_block BG.out
      go_wp2_with fail
      refine (HSF.out).mono ?_
      rintro e w6 ⟨r, rfl, hr, hb⟩
      clear f0 f1 f2 f3 f4 f5 f6 ltf
      clear g0 g1 g2 g3 g4 g5 g6 ltg
      have BE6 := Lib.hid (BE5.out.trans (hb.mono BE5.out.size))
      have BG6 := Lib.hid (Below.keep hb (lt_of_block BG.out) BG.out)
      have HCS6 := Lib.hid (fun j y hy => (hb.cell (p := ⟨bc, j, none⟩) (by simp; omega)).trans (HCS5.out j y hy))
      have FG6 := Lib.hid (FG.out.below hb (Nat.le_refl _))
      have hs6 := hb.size
      have hcw6 : bc < w6.heap.size := by have := hb.size; simp at this; omega
      have HR := Lib.hid hr
      clear hb hr
      have g0 : w6.cell? ⟨w4.heap.size, 0, none⟩ = some (.slice a0 g.pool.length c0) := cells_of BG6.out 0
      have g1 : w6.cell? ⟨w4.heap.size, 1, none⟩ = some (.int .i64 g.fl) := cells_of BG6.out 1
      have g2 : w6.cell? ⟨w4.heap.size, 2, none⟩ = some (.int .i64 g.this) := cells_of BG6.out 2
      have g3 : w6.cell? ⟨w4.heap.size, 3, none⟩ = some (.int .i64 g.super) := cells_of BG6.out 3
      have g4 : w6.cell? ⟨w4.heap.size, 4, none⟩ = some (.slice a4 g.ifs.length c4) := cells_of BG6.out 4
      have g5 : w6.cell? ⟨w4.heap.size, 5, none⟩ = some (.slice a5 g.fds.length c5) := cells_of BG6.out 5
      have g6 : w6.cell? ⟨w4.heap.size, 6, none⟩ = some (.slice a6 g.mts.length c6) := cells_of BG6.out 6
      have ltg := lt_of_block BG6.out
      have hr0 : r = false := by
        cases r
        · rfl
        · exact absurd (HR.out.1 rfl) HNE.out
      subst hr0
      go_wp2_with fail
      refine (HEG.out _ _ _ (by have := FG6.out; unfold flV at this; exact this) hs6).mono ?_
      rintro e w7 ⟨rfl, hb⟩
      have BE7 := Lib.hid (BE6.out.trans (hb.mono BE6.out.size))
      have hcvc : (convert 49 9 (.slice (some ⟨bc, 0, none⟩) T.size cap)).run Try.prog w7 = .ok (.string (mkB (turnL (L T) k z))) w7 := by
        have := run_convert_bytes_back (P := Try.prog) w7 49 9 5 ⟨bc, 0, none⟩ cap (turnL (L T) k z) Try.underlying49 Try.underlying5 Try.underlying9 (fun j hj => by
          rw [plain_add, Nat.zero_add]
          exact (hb.cell (p := ⟨bc, j, none⟩) hcw6).trans (HCS6.out j _ (List.getElem?_eq_getElem hj)))
        rwa [HTS.out] at this
      clear g0 g1 g2 g3 g4 g5 g6 ltg
      clear hb
      go_wp2
      go_ret
      exact ⟨rfl, BE7.out⟩
    · have z1 : (prsE (turnL (L T) k z) == 0) = false := by simpa using hp
      have z2 : (prsE (turnL (L T) k z) != 0) = true := by simpa using hp
      have hg0 := prs_bad hp
      generalize prsE (turnL (L T) k z) = E2 at *
      obtain ⟨g, hg⟩ : ∃ g, g = prsF (turnL (L T) k z) := ⟨_, rfl⟩
      rw [← hg] at HP hg0
      have HGP := Lib.hid (show g.pool.length = 0 by rw [hg0]; rfl)
      have HGT := Lib.hid (show g.this = 0 by rw [hg0]; rfl)
      clear hp hg hg0
      go_wp2_with fail
      refine (HP.out _).mono ?_
      rintro e w4 ⟨a0, c0, a4, c4, a5, c5, a6, c6, rfl, hown, hb⟩
      unfold flV
      have hcw4 : bc < (wc.setCell ⟨bc, k, none⟩ (.int .u8 (bits .xor .u8 (x.toNat : Int) (z : Int)))).heap.size := by simpa [World.setCell] using hcw
      have HCS4 := Lib.hid (fun j y hy => (hb.cell (p := ⟨bc, j, none⟩) hcw4).trans (HCS.out j y hy))
      have BE4 := Lib.hid (BEC.out.trans (hb.mono BEC.out.size))
      have BF4 := Lib.hid (Below.keep hb (lt_of_block BFC.out) BFC.out)
      have FL4 := Lib.hid (FLC.out.below hb (Nat.le_trans hB BEC.out.size))
      have OW := Lib.hid (hown.alloc (.cells #[.slice a0 g.pool.length c0, .int .i64 g.fl, .int .i64 g.this, .int .i64 g.super, .slice a4 g.ifs.length c4, .slice a5 g.fds.length c5, .slice a6 g.mts.length c6] 26))
      have FG := Lib.hid (OW.out.fileAt)
      have BG := Lib.hid (heap_new w4 (.cells #[.slice a0 g.pool.length c0, .int .i64 g.fl, .int .i64 g.this, .int .i64 g.super, .slice a4 g.ifs.length c4, .slice a5 g.fds.length c5, .slice a6 g.mts.length c6] 26))
      have BE5 := Lib.hid (BE4.out.alloc BE4.out.size (.cells #[.slice a0 g.pool.length c0, .int .i64 g.fl, .int .i64 g.this, .int .i64 g.super, .slice a4 g.ifs.length c4, .slice a5 g.fds.length c5, .slice a6 g.mts.length c6] 26))
      have BF5 := Lib.hid (heap_alloc_lt (o := (.cells #[.slice a0 g.pool.length c0, .int .i64 g.fl, .int .i64 g.this, .int .i64 g.super, .slice a4 g.ifs.length c4, .slice a5 g.fds.length c5, .slice a6 g.mts.length c6] 26)) BF4.out)
      have FL5 := Lib.hid (show FileAt w4.heap.size (w4.alloc (.cells #[.slice a0 g.pool.length c0, .int .i64 g.fl, .int .i64 g.this, .int .i64 g.super, .slice a4 g.ifs.length c4, .slice a5 g.fds.length c5, .slice a6 g.mts.length c6] 26)) _ f from (FL4.out.more (Nat.le_trans hB BE4.out.size)).alloc (Nat.le_refl _) (.cells #[.slice a0 g.pool.length c0, .int .i64 g.fl, .int .i64 g.this, .int .i64 g.super, .slice a4 g.ifs.length c4, .slice a5 g.fds.length c5, .slice a6 g.mts.length c6] 26))
      have HCS5 := Lib.hid (fun j y hy => (World.cell?_alloc_lt w4 (.cells #[.slice a0 g.pool.length c0, .int .i64 g.fl, .int .i64 g.this, .int .i64 g.super, .slice a4 g.ifs.length c4, .slice a5 g.fds.length c5, .slice a6 g.mts.length c6] 26) ⟨bc, j, none⟩ (Nat.lt_of_lt_of_le hcw4 hb.size)).trans (HCS4.out j y hy))
      have hcw5 : bc < w4.heap.size := Nat.lt_of_lt_of_le hcw4 hb.size
      clear hown hb
      have HSF := Lib.hid (SameFile_any (B := w4.heap.size + 1) f g _ _ _ (FL5.out.more (by omega)) (by have := FG.out; unfold flV at this; rwa [show (w4.alloc (.cells #[.slice a0 g.pool.length c0, .int .i64 g.fl, .int .i64 g.this, .int .i64 g.super, .slice a4 g.ifs.length c4, .slice a5 g.fds.length c5, .slice a6 g.mts.length c6] 26)).heap.size = w4.heap.size + 1 by simp] at this) (by simp))
      have f0 : (w4.alloc (.cells #[.slice a0 g.pool.length c0, .int .i64 g.fl, .int .i64 g.this, .int .i64 g.super, .slice a4 g.ifs.length c4, .slice a5 g.fds.length c5, .slice a6 g.mts.length c6] 26)).cell? ⟨w.heap.size, 0, none⟩ = some (.slice Ap f.pool.length cp) := cells_of BF5.out 0
      have f1 : (w4.alloc (.cells #[.slice a0 g.pool.length c0, .int .i64 g.fl, .int .i64 g.this, .int .i64 g.super, .slice a4 g.ifs.length c4, .slice a5 g.fds.length c5, .slice a6 g.mts.length c6] 26)).cell? ⟨w.heap.size, 1, none⟩ = some (.int .i64 f.fl) := cells_of BF5.out 1
      have f2 : (w4.alloc (.cells #[.slice a0 g.pool.length c0, .int .i64 g.fl, .int .i64 g.this, .int .i64 g.super, .slice a4 g.ifs.length c4, .slice a5 g.fds.length c5, .slice a6 g.mts.length c6] 26)).cell? ⟨w.heap.size, 2, none⟩ = some (.int .i64 f.this) := cells_of BF5.out 2
      have f3 : (w4.alloc (.cells #[.slice a0 g.pool.length c0, .int .i64 g.fl, .int .i64 g.this, .int .i64 g.super, .slice a4 g.ifs.length c4, .slice a5 g.fds.length c5, .slice a6 g.mts.length c6] 26)).cell? ⟨w.heap.size, 3, none⟩ = some (.int .i64 f.super) := cells_of BF5.out 3
      have f4 : (w4.alloc (.cells #[.slice a0 g.pool.length c0, .int .i64 g.fl, .int .i64 g.this, .int .i64 g.super, .slice a4 g.ifs.length c4, .slice a5 g.fds.length c5, .slice a6 g.mts.length c6] 26)).cell? ⟨w.heap.size, 4, none⟩ = some (.slice Ai f.ifs.length ci) := cells_of BF5.out 4
      have f5 : (w4.alloc (.cells #[.slice a0 g.pool.length c0, .int .i64 g.fl, .int .i64 g.this, .int .i64 g.super, .slice a4 g.ifs.length c4, .slice a5 g.fds.length c5, .slice a6 g.mts.length c6] 26)).cell? ⟨w.heap.size, 5, none⟩ = some (.slice Af f.fds.length cf) := cells_of BF5.out 5
      have f6 : (w4.alloc (.cells #[.slice a0 g.pool.length c0, .int .i64 g.fl, .int .i64 g.this, .int .i64 g.super, .slice a4 g.ifs.length c4, .slice a5 g.fds.length c5, .slice a6 g.mts.length c6] 26)).cell? ⟨w.heap.size, 6, none⟩ = some (.slice Am f.mts.length cm) := cells_of BF5.out 6
      have ltf := lt_of_block BF5.out
      have g0 : (w4.alloc (.cells #[.slice a0 g.pool.length c0, .int .i64 g.fl, .int .i64 g.this, .int .i64 g.super, .slice a4 g.ifs.length c4, .slice a5 g.fds.length c5, .slice a6 g.mts.length c6] 26)).cell? ⟨w4.heap.size, 0, none⟩ = some (.slice a0 g.pool.length c0) := cells_of BG.out 0
      have g1 : (w4.alloc (.cells #[.slice a0 g.pool.length c0, .int .i64 g.fl, .int .i64 g.this, .int .i64 g.super, .slice a4 g.ifs.length c4, .slice a5 g.fds.length c5, .slice a6 g.mts.length c6] 26)).cell? ⟨w4.heap.size, 1, none⟩ = some (.int .i64 g.fl) := cells_of BG.out 1
      have g2 : (w4.alloc (.cells #[.slice a0 g.pool.length c0, .int .i64 g.fl, .int .i64 g.this, .int .i64 g.super, .slice a4 g.ifs.length c4, .slice a5 g.fds.length c5, .slice a6 g.mts.length c6] 26)).cell? ⟨w4.heap.size, 2, none⟩ = some (.int .i64 g.this) := cells_of BG.out 2
      have g3 : (w4.alloc (.cells #[.slice a0 g.pool.length c0, .int .i64 g.fl, .int .i64 g.this, .int .i64 g.super, .slice a4 g.ifs.length c4, .slice a5 g.fds.length c5, .slice a6 g.mts.length c6] 26)).cell? ⟨w4.heap.size, 3, none⟩ = some (.int .i64 g.super) := cells_of BG.out 3
      have g4 : (w4.alloc (.cells #[.slice a0 g.pool.length c0, .int .i64 g.fl, .int .i64 g.this, .int .i64 g.super, .slice a4 g.ifs.length c4, .slice a5 g.fds.length c5, .slice a6 g.mts.length c6] 26)).cell? ⟨w4.heap.size, 4, none⟩ = some (.slice a4 g.ifs.length c4) := cells_of BG.out 4
      have g5 : (w4.alloc (.cells #[.slice a0 g.pool.length c0, .int .i64 g.fl, .int .i64 g.this, .int .i64 g.super, .slice a4 g.ifs.length c4, .slice a5 g.fds.length c5, .slice a6 g.mts.length c6] 26)).cell? ⟨w4.heap.size, 5, none⟩ = some (.slice a5 g.fds.length c5) := cells_of BG.out 5
      have g6 : (w4.alloc (.cells #[.slice a0 g.pool.length c0, .int .i64 g.fl, .int .i64 g.this, .int .i64 g.super, .slice a4 g.ifs.length c4, .slice a5 g.fds.length c5, .slice a6 g.mts.length c6] 26)).cell? ⟨w4.heap.size, 6, none⟩ = some (.slice a6 g.mts.length c6) := cells_of BG.out 6
      have ltg := lt_of_block BG.out
      go_wp2_with fail
      refine (HSF.out).mono ?_
      rintro e w6 ⟨r, rfl, hr, hb⟩
      clear f0 f1 f2 f3 f4 f5 f6 ltf
      clear g0 g1 g2 g3 g4 g5 g6 ltg
      have BE6 := Lib.hid (BE5.out.trans (hb.mono BE5.out.size))
      have BG6 := Lib.hid (Below.keep hb (lt_of_block BG.out) BG.out)
      have HCS6 := Lib.hid (fun j y hy => (hb.cell (p := ⟨bc, j, none⟩) (by simp; omega)).trans (HCS5.out j y hy))
      have FG6 := Lib.hid (FG.out.below hb (Nat.le_refl _))
      have hs6 := hb.size
      have hcw6 : bc < w6.heap.size := by have := hb.size; simp at this; omega
      have HR := Lib.hid hr
      clear hb hr
      have g0 : w6.cell? ⟨w4.heap.size, 0, none⟩ = some (.slice a0 g.pool.length c0) := cells_of BG6.out 0
      have g1 : w6.cell? ⟨w4.heap.size, 1, none⟩ = some (.int .i64 g.fl) := cells_of BG6.out 1
      have g2 : w6.cell? ⟨w4.heap.size, 2, none⟩ = some (.int .i64 g.this) := cells_of BG6.out 2
      have g3 : w6.cell? ⟨w4.heap.size, 3, none⟩ = some (.int .i64 g.super) := cells_of BG6.out 3
      have g4 : w6.cell? ⟨w4.heap.size, 4, none⟩ = some (.slice a4 g.ifs.length c4) := cells_of BG6.out 4
      have g5 : w6.cell? ⟨w4.heap.size, 5, none⟩ = some (.slice a5 g.fds.length c5) := cells_of BG6.out 5
      have g6 : w6.cell? ⟨w4.heap.size, 6, none⟩ = some (.slice a6 g.mts.length c6) := cells_of BG6.out 6
      have ltg := lt_of_block BG6.out
      rw [HGP.out] at g0
      rw [HGT.out] at g2
      go_wp2
      go_ret
      exact ⟨rfl, BE6.out⟩
end Go.Proofs.Ytcgloepfnnfioaa
namespace Go.Proofs.Ytcgloepfnnfioaa.fileTurns
open Go.ChangeShapes Go.WideShapes Go.ChangeAt Go.RowKit
open Go.ChangeMaps (open_string shut_string)

set_option maxRecDepth 100000 in
theorem lifted (os : Os) (started : os.Started) (H : Type) (enc : TypeId × Value → H) :
    ReturnsInHanded {} Try.checked os 8 .any (Rows.fileTurnsSpec.pre6 enc Try.prog Try.f8 Rows.fileTurnsRow.domain false) (Rows.fileTurnsSpec.post enc Try.prog Try.f8 false true false false) := by
  refine returnsInHanded_of_change_sized (C := Try.checked) own started (by kernel_rfl) Try.func8
    (ChangeSpec.witness6 (enc := enc) (C := Try.checked) false ⟨#[], #[.agg #[.slice none 0 0, .int .i64 0, .int .i64 0, .int .i64 0, .slice none 0 0, .slice none 0 0, .slice none 0 0], .int .i64 0, .int .u8 0], []⟩ 8 (by kernel_rfl) (by kernel_rfl) (by kernel_rfl) (by kernel_rfl)) ?_
  intro W base args ds gs before hval0 hW hcnd hsz0 _
  have hsz : (DataW.weightsEach Try.prog (Try.f8.params.toList ++ Rows.fileTurnsSpec.plain.varTypes Try.prog) (ds ++ gs)).all (· ≤ reachBytes) = true := hsz0
  clear hsz0
  have hval : ∀ (j : Nat) t v, Try.f8.params[j]? = some t → args[j]? = some v → Value.okWide Try.prog W .any base t v := hval0
  have hW' := hW
  obtain ⟨p, q, hA0, hV, rfl, hfz, hnd⟩ := hW
  have hA : DataW.TrodAll enc Try.prog W 0 (fun _ => true) true Try.f8.params.toList args.toList ds p := hA0
  rw [Try.params8] at hA hval hsz
  obtain ⟨v0, vs0, d0, ds0, p0, q0, hargs, rfl, rfl, h0, r0⟩ := trodAll_cons hA
  obtain ⟨v1, vs1, d1, ds1, p1, q1, rfl, rfl, rfl, h1, r1⟩ := trodAll_cons r0
  obtain ⟨v2, vs2, d2, ds2, p2, q2, rfl, rfl, rfl, h2, r2⟩ := trodAll_cons r1
  obtain ⟨rfl, rfl, rfl⟩ := trodAll_nil r2
  obtain rfl : args = #[v0, v1, v2] := by cases args; simp_all
  obtain ⟨rfl, rfl⟩ := trodVars_none hV
  obtain ⟨a1, rfl, rfl, rfl, w1⟩ := open_int Try.underlying3 (hval 1 3 v1 rfl rfl) h1
  obtain ⟨a2, rfl, rfl, rfl, w2⟩ := open_int Try.underlying5 (hval 2 5 v2 rfl rfl) h2
  have k0 := h0
  have lt0 : ∀ x ∈ p0, x.block < W.heap.size := by obtain ⟨m, hm⟩ := k0; exact DataW.trod_lt m _ _ _ hm
  obtain ⟨f, hf, hf1, hf2, hf3⟩ := open_file (hval 0 26 v0 rfl rfl) h0 (fun k hk => of_decide_eq_true (List.all_eq_true.1 hsz _ (DataW.weights_mem_each (j := 0) rfl rfl k hk)))
  clear hA0 hval0
  have hb1 : -9223372036854775808 ≤ a1 ∧ a1 ≤ 9223372036854775807 := by
    have h := w1
    simp only [Lit.wf, Bool.and_eq_true, decide_eq_true_eq] at h
    exact h
  have hb2 : 0 ≤ a2 ∧ a2 ≤ 255 := by
    have h := w2
    simp only [Lit.wf, Bool.and_eq_true, decide_eq_true_eq] at h
    exact h
  obtain ⟨z, rfl⟩ : ∃ z : Nat, a2 = z := ⟨a2.toNat, by omega⟩
  refine (turns_walk f v0 W hf (Nat.le_refl _) ⟨hf1, hf2, hf3⟩ a1 hb1 z (by omega)).mono fun e W' ⟨he, bel⟩ => ?_
  subst he
  exact ⟨_, rfl, _, _, _, [], _, [], hW', trodAll_mk1 (shut_bool Try.underlying4 _), (trodAll_cons_mk (Below.trod laidOut (by kernel_rfl) (of_decide_eq_true (by kernel_rfl)) k0 bel lt0) (trodAll_cons_mk (shut_int Try.underlying3 w1) (trodAll_cons_mk (shut_int Try.underlying5 w2) trodAll_mk0))), rfl, bel.frame _, fun h => by cases h⟩

theorem over : Rows.fileTurnsRow.holds Try.pinned (OpenSpec.ofChange Rows.fileTurnsSpec) :=
  OpenClaim.holds_of_wide 8 Try.f8 rfl rfl rfl rfl rfl rfl rfl ⟨rfl, rfl, rfl, rfl, rfl⟩ rfl rfl rfl rfl rfl (by kernel_rfl) Try.func8 (by kernel_rfl)
    (of_decide_eq_true (by kernel_rfl)) (by unfold Func.isWrapper; first | (rw [if_pos (by decide +kernel)]; kernel_rfl) | (rw [if_neg (by decide +kernel)]; exact ⟨rfl, rfl⟩))
    (fun os started H enc _ => lifted os started H enc)

theorem proved : Rows.FileTurnsSaid := over
end Go.Proofs.Ytcgloepfnnfioaa.fileTurns
