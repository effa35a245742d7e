/-
  CUT and joined from the texts of this seat: E11
-/
import Derived.Test.YtmaknddlgppinaaGreatDoorX17
set_option linter.unusedVariables false
set_option linter.unusedSimpArgs false
/-! E11 -/
namespace Go.Proofs.YtmaknddlgppinaaGreatDoor
open Go.RowKit

/-- The error of the member at place k: of its parts, or that one ahead is the same; of all members. -/
def memE (parts : List (Mb → Int)) (same : Mb → Mb → Bool) (ms : List Mb) (k : Nat) : Int :=
  match ms[k]? with
  | some m => if firstErr (fun g => g m) parts = 0 then (if (ms.take k).any (fun d => same d m) = true then 15 else 0) else firstErr (fun g => g m) parts
  | none => 0
def memsE (parts : List (Mb → Int)) (same : Mb → Mb → Bool) (ms : List Mb) : Int := if 200 < ms.length then 3 else firstErr (memE parts same ms) (List.range ms.length)
theorem memE_bad {parts : List (Mb → Int)} {same : Mb → Mb → Bool} {ms : List Mb} {k : Nat} {x : Mb} {e : Int} (hx : ms[k]? = some x) (h : firstErr (fun g => g x) parts = e) (he : e ≠ 0) : memE parts same ms k = e := by
  unfold memE
  rw [hx]
  show (if firstErr (fun g => g x) parts = 0 then _ else firstErr (fun g => g x) parts) = e
  rw [if_neg (by rw [h]; exact he), h]
theorem range_next {g : Nat → Int} {k : Nat} (h : firstErr g (List.range k) = 0) : firstErr g (List.range (k + 1)) = g k := by
  rw [List.range_succ, firstErr_append, if_pos h]
  simp only [firstErr]
  split
  · rename_i h; exact h.symm
  · rfl
theorem range_stop {g : Nat → Int} {k n : Nat} (hk : k ≤ n) (h : firstErr g (List.range k) ≠ 0) : firstErr g (List.range n) = firstErr g (List.range k) := by
  have e : (List.range n).take k = List.range k := by rw [List.take_range, Nat.min_eq_left hk]
  have := firstErr_stop g (List.range n) k (by rw [e]; exact h)
  rwa [e] at this
theorem range_over {g : Nat → Int} {k n E : _} (hk : k ≤ n) (h : firstErr g (List.range k) = E) (he : E ≠ 0) : firstErr g (List.range n) = E := by
  rw [range_stop hk (by rw [h]; exact he), h]
theorem MRow.cap_le {B : Nat} {w : World} {A : Option Addr} {n cap : Nat} {ms : List Mb} (h : MRow B w (.slice A n cap) ms) : ms.length ≤ cap := by
  obtain ⟨_, _, _, _, _, e, h, _⟩ := h
  injection e with _ _ e3
  omega
theorem MEnv.next {B : Nat} {g : FuncId} {F S Lb I : Nat} {Ap Ai Af Am : Option Addr} {cp ci cf cm : Nat} {f : Fl} {A : Option Addr} {cap : Nat} {ms : List Mb} {k : Nat} {w : World} (h : MEnv B g F S Lb I Ap cp Ai ci Af cf Am cm f A cap ms k w) :
    MEnv B g F S Lb w.heap.size Ap cp Ai ci Af cf Am cm f A cap ms (k + 1) (w.alloc (.cells #[.int .i64 ((k : Int) + 1)] 3)) := by
  have h1 := h.alloc (.cells #[.int .i64 ((k : Int) + 1)] 3)
  exact ⟨h1.fbox, h1.sbox, h1.lbox, heap_new w _, h1.file, h1.rows, h1.le⟩
set_option maxRecDepth 1000000 in
set_option maxHeartbeats 6400000 in
theorem membersF {B : Nat} (f : Fl) (v : Value) (w : World) (hf : FileAt B w v f) (hB : B ≤ w.heap.size) (ht : Texts f.pool) (hfl : f.fl = 0 ∨ f.fl = 2 ∨ f.fl = 3) (ms : List Mb) (A : Option Addr) (cap : Nat) (hm : MRow B w (.slice A ms.length cap) ms)
    (pb : Nat) (hpb : pb < w.heap.size) (hp0 : w.cell? ⟨pb, 0, none⟩ = some (.func (.func 152) #[] #[])) (hp1 : w.cell? ⟨pb, 1, none⟩ = some (.func (.func 153) #[] #[])) :
    Calls Tryz.prog 150 #[v, .slice A ms.length cap, .func (.func 151) #[] #[], .slice (some ⟨pb, 0, none⟩) 2 2] w fun e w' => e = .returned (.int .i64 (memsE [hdE f.pool f.fl 1 typeE, extraE] (sameN f.pool) ms)) ∧ Below w.heap.size w w' := by
  have hmax : ms.length ≤ 9223372036854775807 := by
    obtain ⟨_, _, _, _, _, _, _, hm, _⟩ := hm
    unfold maxLen at hm
    exact hm
  have HE := Lib.hid (show memsE [hdE f.pool f.fl 1 typeE, extraE] (sameN f.pool) ms = if 200 < ms.length then 3 else firstErr (memE [hdE f.pool f.fl 1 typeE, extraE] (sameN f.pool) ms) (List.range ms.length) from rfl)
  have HP0 := Lib.hid (fun V W (hW : FileAt B W V f) (hWB : B ≤ W.heap.size) (x : Mb) (Ax : Option Addr) (cx : Nat) (hx : HRow B W (.slice Ax x.hs.length cx) x.hs) => fieldHeadErr_any (B := B) f V W hW hWB ht hfl x Ax cx)
  have HP1 := Lib.hid (fun V W (hW : FileAt B W V f) (hWB : B ≤ W.heap.size) (x : Mb) (Ax : Option Addr) (cx : Nat) (hx : HRow B W (.slice Ax x.hs.length cx) x.hs) => extraErr_any (B := B) f V W hW hWB x Ax cx)
  generalize memsE [hdE f.pool f.fl 1 typeE, extraE] (sameN f.pool) ms = R at *
  obtain ⟨Ap, cp, Ai, ci, Af, cf, Am, cm, rfl, hi⟩ := id hf
  have BE := Lib.hid ((((Below.refl w.heap.size w).alloc (Nat.le_refl _) (.cells #[.slice Ap f.pool.length cp, .int .i64 f.fl, .int .i64 f.this, .int .i64 f.super, .slice Ai f.ifs.length ci, .slice Af f.fds.length cf, .slice Am f.mts.length cm] 94)).alloc (le_alloc (Nat.le_refl _) _) (.cells #[.slice A ms.length cap] 92)).alloc (le_alloc (le_alloc (Nat.le_refl _) _) _) (.cells #[.func (.func 151) #[] #[]] 189))
  by_cases hbig : 200 < ms.length
  · have HR := Lib.hid (show R = 3 by rw [HE.out, if_pos hbig])
    have hbig' : (200 : Int) < ms.length := by omega
    clear HE hbig
    go_enter Tryz.func150, Tryz.ntmps150
    go_wp2
    go_step3
    go_wp2
    try rw [Exit.noGoto_ret]
    go_ret
    exact ⟨ret_i HR.out.symm, BE.out⟩
  have hle : (ms.length : Int) ≤ 200 := by omega
  have HR := Lib.hid (show R = firstErr (memE [hdE f.pool f.fl 1 typeE, extraE] (sameN f.pool) ms) (List.range ms.length) by rw [HE.out, if_neg hbig])
  clear HE hbig
  have HENV0 : MEnv B 151 w.heap.size (w.heap.size + 1 + 1) (w.heap.size + 1) (w.heap.size + 1 + 1 + 1) Ap cp Ai ci Af cf Am cm f A cap ms 0 ((((w.alloc (.cells #[.slice Ap f.pool.length cp, .int .i64 f.fl, .int .i64 f.this, .int .i64 f.super, .slice Ai f.ifs.length ci, .slice Af f.fds.length cf, .slice Am f.mts.length cm] 94)).alloc (.cells #[.slice A ms.length cap] 92)).alloc (.cells #[.func (.func 151) #[] #[]] 189)).alloc (.cells #[.int .i64 0] 3)) :=
    ⟨(((FBox.new Ap cp Ai ci Af cf Am cm f w).alloc (.cells #[.slice A ms.length cap] 92)).alloc (.cells #[.func (.func 151) #[] #[]] 189)).alloc (.cells #[.int .i64 0] 3), heap_alloc_lt (by have := heap_new ((w.alloc (.cells #[.slice Ap f.pool.length cp, .int .i64 f.fl, .int .i64 f.this, .int .i64 f.super, .slice Ai f.ifs.length ci, .slice Af f.fds.length cf, .slice Am f.mts.length cm] 94)).alloc (.cells #[.slice A ms.length cap] 92)) (.cells #[.func (.func 151) #[] #[]] 189); rwa [show ((w.alloc (.cells #[.slice Ap f.pool.length cp, .int .i64 f.fl, .int .i64 f.this, .int .i64 f.super, .slice Ai f.ifs.length ci, .slice Af f.fds.length cf, .slice Am f.mts.length cm] 94)).alloc (.cells #[.slice A ms.length cap] 92)).heap.size = w.heap.size + 1 + 1 by simp] at this), heap_alloc_lt (heap_alloc_lt (heap_new2 w (.cells #[.slice Ap f.pool.length cp, .int .i64 f.fl, .int .i64 f.this, .int .i64 f.super, .slice Ai f.ifs.length ci, .slice Af f.fds.length cf, .slice Am f.mts.length cm] 94) (.cells #[.slice A ms.length cap] 92))), (by have := heap_new (((w.alloc (.cells #[.slice Ap f.pool.length cp, .int .i64 f.fl, .int .i64 f.this, .int .i64 f.super, .slice Ai f.ifs.length ci, .slice Af f.fds.length cf, .slice Am f.mts.length cm] 94)).alloc (.cells #[.slice A ms.length cap] 92)).alloc (.cells #[.func (.func 151) #[] #[]] 189)) (.cells #[.int .i64 0] 3); rwa [show (((w.alloc (.cells #[.slice Ap f.pool.length cp, .int .i64 f.fl, .int .i64 f.this, .int .i64 f.super, .slice Ai f.ifs.length ci, .slice Af f.fds.length cf, .slice Am f.mts.length cm] 94)).alloc (.cells #[.slice A ms.length cap] 92)).alloc (.cells #[.func (.func 151) #[] #[]] 189)).heap.size = w.heap.size + 1 + 1 + 1 by simp] at this),
      (((hf.alloc hB (.cells #[.slice Ap f.pool.length cp, .int .i64 f.fl, .int .i64 f.this, .int .i64 f.super, .slice Ai f.ifs.length ci, .slice Af f.fds.length cf, .slice Am f.mts.length cm] 94)).alloc (le_alloc hB _) (.cells #[.slice A ms.length cap] 92)).alloc (le_alloc (le_alloc hB _) _) (.cells #[.func (.func 151) #[] #[]] 189)).alloc (le_alloc (le_alloc (le_alloc hB _) _) _) (.cells #[.int .i64 0] 3),
      hm.keep (fun p hp => by rw [World.cell?_alloc_lt _ _ _ (by simp; omega), World.cell?_alloc_lt _ _ _ (by simp; omega), World.cell?_alloc_lt _ _ _ (by simp; omega), World.cell?_alloc_lt _ _ _ (by omega)]),
      le_alloc (le_alloc (le_alloc (le_alloc hB _) _) _) _⟩
  have HENV := Lib.hid HENV0
  have BE4 := Lib.hid (BE.out.alloc (le_alloc (le_alloc (le_alloc (Nat.le_refl _) _) _) _) (.cells #[.int .i64 0] 3))
  clear HENV0 hi hf hm
  have HPC0 := Lib.hid hp0
  have HPC1 := Lib.hid hp1
  clear hp0 hp1
  go_enter Tryz.func150, Tryz.ntmps150
  go_wp2
  go_step3
  go_wp2
  go_step3
  go_wp2
  go_loopg [9, 10] ms.length (fun g ev iv wx => ∃ (k I : Nat) (E : Int), ev = .int .i64 E ∧ iv = .pointer (some ⟨I, 0, none⟩) ∧ firstErr (memE [hdE f.pool f.fl 1 typeE, extraE] (sameN f.pool) ms) (List.range k) = E ∧ k + g = ms.length ∧ MEnv B 151 w.heap.size (w.heap.size + 1 + 1) (w.heap.size + 1) I Ap cp Ai ci Af cf Am cm f A cap ms k wx ∧ Below w.heap.size w wx)
  case atStart => exact ⟨0, _, 0, rfl, rfl, rfl, by omega, HENV.out, BE4.out⟩
  case round =>
    obtain ⟨k, I, E, rfl, rfl, hE, hkg, henv, hbel⟩ := hrel
    have HEK := Lib.hid hE
    have EN := Lib.hid henv
    have BEL := Lib.hid hbel
    have i0 : wr.cell? ⟨I, 0, none⟩ = some (.int .i64 (k : Int)) := cells_of henv.ibox 0
    have l0 : wr.cell? ⟨w.heap.size + 1, 0, none⟩ = some (.slice A ms.length cap) := cells_of henv.lbox 0
    clear hE henv hbel
    by_cases hk : k < ms.length
    · by_cases hE0 : E = 0
      · subst hE0
        have hgg : gk - 1 < gk := by omega
        obtain ⟨x, hx⟩ : ∃ x, ms[k]? = some x := ⟨_, List.getElem?_eq_getElem hk⟩
        obtain ⟨b, o, A', c', rfl, hbB, hrow, y0, y1, y2, y3, y4, y5, y6⟩ := EN.out.rows.at_ hx
        have hcap := EN.out.rows.cap_le
        have hkc : k ≤ cap := by omega
        have HX := Lib.hid hx
        have HROW := Lib.hid hrow
        have HNX := Lib.hid (range_next HEK.out)
        have HME := Lib.hid (show memE [hdE f.pool f.fl 1 typeE, extraE] (sameN f.pool) ms k = if firstErr (fun g => g x) [hdE f.pool f.fl 1 typeE, extraE] = 0 then (if (ms.take k).any (fun d => sameN f.pool d x) = true then 15 else 0) else firstErr (fun g => g x) [hdE f.pool f.fl 1 typeE, extraE] by unfold memE; rw [hx])
        clear hx hrow
        have p0 : wr.cell? ⟨pb, 0, none⟩ = some (.func (.func 152) #[] #[]) := (BEL.out.cell (p := ⟨pb, 0, none⟩) hpb).trans HPC0.out
        have p1 : wr.cell? ⟨pb, 1, none⟩ = some (.func (.func 153) #[] #[]) := (BEL.out.cell (p := ⟨pb, 1, none⟩) hpb).trans HPC1.out
        obtain ⟨c0, c1, c2, c3, c4, c5, c6⟩ := EN.out.fbox.cells
        go_wp2
        refine wp_loop_rounds 3 ?_
        rw [rounds_succ]
        by_cases hz : hdE f.pool f.fl 1 typeE x = 0
        · have HZ0 := Lib.hid hz
          have HPC := show Calls Tryz.prog 152 _ wr.drew fun e w' => e = .returned (.int .i64 (0)) ∧ Below wr.drew.heap.size wr.drew w' from by have := HP0.out _ wr.drew EN.out.file.drew EN.out.le x A' c' (Row.keep HROW.out fun _ _ => rfl); rwa [hz] at this
          have HPC := Lib.hid HPC
          clear hz
          go_wp2
          refine wp_region_still_tail 6 (by kernel_rfl) (by kernel_rfl) ?_
          change wpStill _ _ wr.drew _ _ _
          simp only [List.take_succ_cons, List.take_zero, List.drop_succ_cons, List.drop_zero]
          repeat still_step
          refine wpStill_nil ?_
          change wpList _ _ _ _ _ wr.drew
          go_wp2_with fail
          refine (HPC.out).mono ?_
          rintro e w1 ⟨rfl, hb⟩
          have EN1 := Lib.hid (EN.out.drew.below hb (Nat.le_refl _))
          have BL1 := Lib.hid (Below.link BEL.out.drew hb)
          have RW1 := Lib.hid (Row.keep (w' := w1) HROW.out fun p hp => hb.cell (p := p) (show p.block < wr.heap.size from Nat.lt_of_lt_of_le hp EN.out.le))
          have y0_1 := keepc (W := wr.drew) hb (B := B) hbB EN.out.le y0
          have y1_1 := keepc (W := wr.drew) hb (B := B) hbB EN.out.le y1
          have y2_1 := keepc (W := wr.drew) hb (B := B) hbB EN.out.le y2
          have y3_1 := keepc (W := wr.drew) hb (B := B) hbB EN.out.le y3
          have y4_1 := keepc (W := wr.drew) hb (B := B) hbB EN.out.le y4
          have y5_1 := keepc (W := wr.drew) hb (B := B) hbB EN.out.le y5
          have y6_1 := keepc (W := wr.drew) hb (B := B) hbB EN.out.le y6
          clear y0 y1 y2 y3 y4 y5 y6
          clear hb HPC
          clear i0 l0 c0 c1 c2 c3 c4 c5 c6 p0 p1
          have i0 : w1.cell? ⟨I, 0, none⟩ = some (.int .i64 (k : Int)) := cells_of EN1.out.ibox 0
          have l0 : w1.cell? ⟨w.heap.size + 1, 0, none⟩ = some (.slice (some ⟨b, o, none⟩) ms.length cap) := cells_of EN1.out.lbox 0
          obtain ⟨c0, c1, c2, c3, c4, c5, c6⟩ := EN1.out.fbox.cells
          have p0 : w1.cell? ⟨pb, 0, none⟩ = some (.func (.func 152) #[] #[]) := (BL1.out.cell (p := ⟨pb, 0, none⟩) hpb).trans HPC0.out
          have p1 : w1.cell? ⟨pb, 1, none⟩ = some (.func (.func 153) #[] #[]) := (BL1.out.cell (p := ⟨pb, 1, none⟩) hpb).trans HPC1.out
          go_wp2
          rw [rounds_succ]
          by_cases hz : extraE x = 0
          · have HZ1 := Lib.hid hz
            have HPC := show Calls Tryz.prog 153 _ w1.drew fun e w' => e = .returned (.int .i64 (0)) ∧ Below w1.drew.heap.size w1.drew w' from by have := HP1.out _ w1.drew EN1.out.file.drew EN1.out.le x A' c' (Row.keep RW1.out fun _ _ => rfl); rwa [hz] at this
            have HPC := Lib.hid HPC
            clear hz
            go_wp2
            refine wp_region_still_tail 6 (by kernel_rfl) (by kernel_rfl) ?_
            change wpStill _ _ w1.drew _ _ _
            simp only [List.take_succ_cons, List.take_zero, List.drop_succ_cons, List.drop_zero]
            repeat still_step
            refine wpStill_nil ?_
            change wpList _ _ _ _ _ w1.drew
            go_wp2_with fail
            refine (HPC.out).mono ?_
            rintro e w2 ⟨rfl, hb⟩
            have EN2 := Lib.hid (EN1.out.drew.below hb (Nat.le_refl _))
            have BL2 := Lib.hid (Below.link BL1.out.drew hb)
            have RW2 := Lib.hid (Row.keep (w' := w2) RW1.out fun p hp => hb.cell (p := p) (show p.block < w1.heap.size from Nat.lt_of_lt_of_le hp EN1.out.le))
            have y0_2 := keepc (W := w1.drew) hb (B := B) hbB EN1.out.le y0_1
            have y1_2 := keepc (W := w1.drew) hb (B := B) hbB EN1.out.le y1_1
            have y2_2 := keepc (W := w1.drew) hb (B := B) hbB EN1.out.le y2_1
            have y3_2 := keepc (W := w1.drew) hb (B := B) hbB EN1.out.le y3_1
            have y4_2 := keepc (W := w1.drew) hb (B := B) hbB EN1.out.le y4_1
            have y5_2 := keepc (W := w1.drew) hb (B := B) hbB EN1.out.le y5_1
            have y6_2 := keepc (W := w1.drew) hb (B := B) hbB EN1.out.le y6_1
            clear y0_1 y1_1 y2_1 y3_1 y4_1 y5_1 y6_1
            clear hb HPC
            clear i0 l0 c0 c1 c2 c3 c4 c5 c6 p0 p1
            have i0 : w2.cell? ⟨I, 0, none⟩ = some (.int .i64 (k : Int)) := cells_of EN2.out.ibox 0
            have l0 : w2.cell? ⟨w.heap.size + 1, 0, none⟩ = some (.slice (some ⟨b, o, none⟩) ms.length cap) := cells_of EN2.out.lbox 0
            obtain ⟨c0, c1, c2, c3, c4, c5, c6⟩ := EN2.out.fbox.cells
            have p0 : w2.cell? ⟨pb, 0, none⟩ = some (.func (.func 152) #[] #[]) := (BL2.out.cell (p := ⟨pb, 0, none⟩) hpb).trans HPC0.out
            have p1 : w2.cell? ⟨pb, 1, none⟩ = some (.func (.func 153) #[] #[]) := (BL2.out.cell (p := ⟨pb, 1, none⟩) hpb).trans HPC1.out
            go_wp2
            rw [rounds_succ]
            have HPZ := Lib.hid (show firstErr (fun g => g x) [hdE f.pool f.fl 1 typeE, extraE] = 0 by simp only [firstErr]; rw [if_pos HZ0.out, if_pos HZ1.out])
            cases hany : (ms.take k).any (fun d => sameN f.pool d x)
            · have HCE := Lib.hid (show memE [hdE f.pool f.fl 1 typeE, extraE] (sameN f.pool) ms k = 0 by rw [HME.out, if_pos HPZ.out, hany]; rfl)
              have HCC := Lib.hid (ContainsN w2 EN2.out x HX.out)
              rw [hany] at HCC
              clear hany
              go_wp2_with fail
              refine HCC.out.mono ?_
              rintro e w9 ⟨rfl, hb⟩
              have EN9 := Lib.hid (EN2.out.below hb (Nat.le_refl _))
              have BL9 := Lib.hid (Below.link BL2.out hb)
              clear hb i0 l0 c0 c1 c2 c3 c4 c5 c6 p0 p1
              have i0 : w9.cell? ⟨I, 0, none⟩ = some (.int .i64 (k : Int)) := cells_of EN9.out.ibox 0
              go_wp2
              go_roundg (gk - 1)
              case measure => exact hgg
              case rel => exact ⟨k + 1, _, 0, rfl, rfl, by rw [HNX.out]; exact HCE.out, by omega, MEnv.next EN9.out, BL9.out.alloc (by have := BL9.out.size; omega) _⟩
            · have HCE := Lib.hid (show memE [hdE f.pool f.fl 1 typeE, extraE] (sameN f.pool) ms k = 15 by rw [HME.out, if_pos HPZ.out, hany]; rfl)
              have HCC := Lib.hid (ContainsN w2 EN2.out x HX.out)
              rw [hany] at HCC
              clear hany
              go_wp2_with fail
              refine HCC.out.mono ?_
              rintro e w9 ⟨rfl, hb⟩
              have EN9 := Lib.hid (EN2.out.below hb (Nat.le_refl _))
              have BL9 := Lib.hid (Below.link BL2.out hb)
              clear hb i0 l0 c0 c1 c2 c3 c4 c5 c6 p0 p1
              have i0 : w9.cell? ⟨I, 0, none⟩ = some (.int .i64 (k : Int)) := cells_of EN9.out.ibox 0
              go_wp2
              go_roundg (gk - 1)
              case measure => exact hgg
              case rel => exact ⟨k + 1, _, 15, rfl, rfl, by rw [HNX.out]; exact HCE.out, by omega, MEnv.next EN9.out, BL9.out.alloc (by have := BL9.out.size; omega) _⟩
          · have HCE := Lib.hid (show memE [hdE f.pool f.fl 1 typeE, extraE] (sameN f.pool) ms k = extraE x from memE_bad HX.out (by simp only [firstErr]; rw [if_pos HZ0.out, if_neg hz]) hz)
            have HPC := Lib.hid (show Calls Tryz.prog 153 _ w1.drew fun e w' => e = .returned (.int .i64 (extraE x)) ∧ Below w1.drew.heap.size w1.drew w' from by have := HP1.out _ w1.drew EN1.out.file.drew EN1.out.le x A' c' (Row.keep RW1.out fun _ _ => rfl); exact this)
            have hne : (extraE x == 0) = false := by simpa using hz
            have HNE := Lib.hid hne
            generalize hq : extraE x = Q at *
            clear hz hq
            go_wp2
            refine wp_region_still_tail 6 (by kernel_rfl) (by kernel_rfl) ?_
            change wpStill _ _ w1.drew _ _ _
            simp only [List.take_succ_cons, List.take_zero, List.drop_succ_cons, List.drop_zero]
            repeat still_step
            refine wpStill_nil ?_
            change wpList _ _ _ _ _ w1.drew
            go_wp2_with fail
            refine (HPC.out).mono ?_
            rintro e w2 ⟨rfl, hb⟩
            have EN2 := Lib.hid (EN1.out.drew.below hb (Nat.le_refl _))
            have BL2 := Lib.hid (Below.link BL1.out.drew hb)
            have RW2 := Lib.hid (Row.keep (w' := w2) RW1.out fun p hp => hb.cell (p := p) (show p.block < w1.heap.size from Nat.lt_of_lt_of_le hp EN1.out.le))
            clear hb HPC
            clear i0 l0 c0 c1 c2 c3 c4 c5 c6 p0 p1
            have i0 : w2.cell? ⟨I, 0, none⟩ = some (.int .i64 (k : Int)) := cells_of EN2.out.ibox 0
            go_wp2
            go_roundg (gk - 1)
            case measure => exact hgg
            case rel => exact ⟨k + 1, _, _, rfl, rfl, by rw [HNX.out]; exact HCE.out, by omega, MEnv.next EN2.out, BL2.out.alloc (by have := BL2.out.size; omega) _⟩
        · have HCE := Lib.hid (show memE [hdE f.pool f.fl 1 typeE, extraE] (sameN f.pool) ms k = hdE f.pool f.fl 1 typeE x from memE_bad HX.out (by simp only [firstErr]; rw [if_neg hz]) hz)
          have HPC := Lib.hid (show Calls Tryz.prog 152 _ wr.drew fun e w' => e = .returned (.int .i64 (hdE f.pool f.fl 1 typeE x)) ∧ Below wr.drew.heap.size wr.drew w' from by have := HP0.out _ wr.drew EN.out.file.drew EN.out.le x A' c' (Row.keep HROW.out fun _ _ => rfl); exact this)
          have hne : (hdE f.pool f.fl 1 typeE x == 0) = false := by simpa using hz
          have HNE := Lib.hid hne
          generalize hq : hdE f.pool f.fl 1 typeE x = Q at *
          clear hz hq
          go_wp2
          refine wp_region_still_tail 6 (by kernel_rfl) (by kernel_rfl) ?_
          change wpStill _ _ wr.drew _ _ _
          simp only [List.take_succ_cons, List.take_zero, List.drop_succ_cons, List.drop_zero]
          repeat still_step
          refine wpStill_nil ?_
          change wpList _ _ _ _ _ wr.drew
          go_wp2_with fail
          refine (HPC.out).mono ?_
          rintro e w1 ⟨rfl, hb⟩
          have EN1 := Lib.hid (EN.out.drew.below hb (Nat.le_refl _))
          have BL1 := Lib.hid (Below.link BEL.out.drew hb)
          have RW1 := Lib.hid (Row.keep (w' := w1) HROW.out fun p hp => hb.cell (p := p) (show p.block < wr.heap.size from Nat.lt_of_lt_of_le hp EN.out.le))
          clear hb HPC
          clear i0 l0 c0 c1 c2 c3 c4 c5 c6 p0 p1
          have i0 : w1.cell? ⟨I, 0, none⟩ = some (.int .i64 (k : Int)) := cells_of EN1.out.ibox 0
          go_wp2
          go_roundg (gk - 1)
          case measure => exact hgg
          case rel => exact ⟨k + 1, _, _, rfl, rfl, by rw [HNX.out]; exact HCE.out, by omega, MEnv.next EN1.out, BL1.out.alloc (by have := BL1.out.size; omega) _⟩
      · have hne : (E == 0) = false := by simpa using hE0
        have HST := Lib.hid (range_over (n := ms.length) (by omega) HEK.out hE0)
        go_wp2
        try rw [Exit.noGoto_ret]
        go_ret
        exact ⟨ret_i (by rw [HR.out, HST.out]), BEL.out⟩
    · have hke : k = ms.length := by omega
      have HALL := Lib.hid (show firstErr (memE [hdE f.pool f.fl 1 typeE, extraE] (sameN f.pool) ms) (List.range ms.length) = E by rw [← hke]; exact HEK.out)
      clear hke
      go_wp2
      try rw [Exit.noGoto_ret]
      go_ret
      exact ⟨ret_i (by rw [HR.out, HALL.out]), BEL.out⟩
set_option maxRecDepth 1000000 in
set_option maxHeartbeats 6400000 in
theorem membersM {B : Nat} (f : Fl) (v : Value) (w : World) (hf : FileAt B w v f) (hB : B ≤ w.heap.size) (ht : Texts f.pool) (hfl : f.fl = 0 ∨ f.fl = 2 ∨ f.fl = 3) (ms : List Mb) (A : Option Addr) (cap : Nat) (hm : MRow B w (.slice A ms.length cap) ms)
    (pb : Nat) (hpb : pb < w.heap.size) (hp0 : w.cell? ⟨pb, 0, none⟩ = some (.func (.func 155) #[] #[])) (hp1 : w.cell? ⟨pb, 1, none⟩ = some (.func (.func 156) #[] #[])) (hp2 : w.cell? ⟨pb, 2, none⟩ = some (.func (.func 157) #[] #[])) :
    Calls Tryz.prog 150 #[v, .slice A ms.length cap, .func (.func 154) #[] #[], .slice (some ⟨pb, 0, none⟩) 3 3] w fun e w' => e = .returned (.int .i64 (memsE [hdE f.pool f.fl 2 sigE, specE f.pool, bodyE f.pool] (sameM f.pool) ms)) ∧ Below w.heap.size w w' := by
  have hmax : ms.length ≤ 9223372036854775807 := by
    obtain ⟨_, _, _, _, _, _, _, hm, _⟩ := hm
    unfold maxLen at hm
    exact hm
  have HE := Lib.hid (show memsE [hdE f.pool f.fl 2 sigE, specE f.pool, bodyE f.pool] (sameM f.pool) ms = if 200 < ms.length then 3 else firstErr (memE [hdE f.pool f.fl 2 sigE, specE f.pool, bodyE f.pool] (sameM f.pool) ms) (List.range ms.length) from rfl)
  have HP0 := Lib.hid (fun V W (hW : FileAt B W V f) (hWB : B ≤ W.heap.size) (x : Mb) (Ax : Option Addr) (cx : Nat) (hx : HRow B W (.slice Ax x.hs.length cx) x.hs) => methodHeadErr_any (B := B) f V W hW hWB ht hfl x Ax cx)
  have HP1 := Lib.hid (fun V W (hW : FileAt B W V f) (hWB : B ≤ W.heap.size) (x : Mb) (Ax : Option Addr) (cx : Nat) (hx : HRow B W (.slice Ax x.hs.length cx) x.hs) => specialErr_any (B := B) f V W hW hWB ht x Ax cx)
  have HP2 := Lib.hid (fun V W (hW : FileAt B W V f) (hWB : B ≤ W.heap.size) (x : Mb) (Ax : Option Addr) (cx : Nat) (hx : HRow B W (.slice Ax x.hs.length cx) x.hs) => bodyErr_any (B := B) f V W hW hWB x Ax cx hx)
  generalize memsE [hdE f.pool f.fl 2 sigE, specE f.pool, bodyE f.pool] (sameM f.pool) ms = R at *
  obtain ⟨Ap, cp, Ai, ci, Af, cf, Am, cm, rfl, hi⟩ := id hf
  have BE := Lib.hid ((((Below.refl w.heap.size w).alloc (Nat.le_refl _) (.cells #[.slice Ap f.pool.length cp, .int .i64 f.fl, .int .i64 f.this, .int .i64 f.super, .slice Ai f.ifs.length ci, .slice Af f.fds.length cf, .slice Am f.mts.length cm] 94)).alloc (le_alloc (Nat.le_refl _) _) (.cells #[.slice A ms.length cap] 92)).alloc (le_alloc (le_alloc (Nat.le_refl _) _) _) (.cells #[.func (.func 154) #[] #[]] 189))
  by_cases hbig : 200 < ms.length
  · have HR := Lib.hid (show R = 3 by rw [HE.out, if_pos hbig])
    have hbig' : (200 : Int) < ms.length := by omega
    clear HE hbig
    go_enter Tryz.func150, Tryz.ntmps150
    go_wp2
    go_step3
    go_wp2
    try rw [Exit.noGoto_ret]
    go_ret
    exact ⟨ret_i HR.out.symm, BE.out⟩
  have hle : (ms.length : Int) ≤ 200 := by omega
  have HR := Lib.hid (show R = firstErr (memE [hdE f.pool f.fl 2 sigE, specE f.pool, bodyE f.pool] (sameM f.pool) ms) (List.range ms.length) by rw [HE.out, if_neg hbig])
  clear HE hbig
  have HENV0 : MEnv B 154 w.heap.size (w.heap.size + 1 + 1) (w.heap.size + 1) (w.heap.size + 1 + 1 + 1) Ap cp Ai ci Af cf Am cm f A cap ms 0 ((((w.alloc (.cells #[.slice Ap f.pool.length cp, .int .i64 f.fl, .int .i64 f.this, .int .i64 f.super, .slice Ai f.ifs.length ci, .slice Af f.fds.length cf, .slice Am f.mts.length cm] 94)).alloc (.cells #[.slice A ms.length cap] 92)).alloc (.cells #[.func (.func 154) #[] #[]] 189)).alloc (.cells #[.int .i64 0] 3)) :=
    ⟨(((FBox.new Ap cp Ai ci Af cf Am cm f w).alloc (.cells #[.slice A ms.length cap] 92)).alloc (.cells #[.func (.func 154) #[] #[]] 189)).alloc (.cells #[.int .i64 0] 3), heap_alloc_lt (by have := heap_new ((w.alloc (.cells #[.slice Ap f.pool.length cp, .int .i64 f.fl, .int .i64 f.this, .int .i64 f.super, .slice Ai f.ifs.length ci, .slice Af f.fds.length cf, .slice Am f.mts.length cm] 94)).alloc (.cells #[.slice A ms.length cap] 92)) (.cells #[.func (.func 154) #[] #[]] 189); rwa [show ((w.alloc (.cells #[.slice Ap f.pool.length cp, .int .i64 f.fl, .int .i64 f.this, .int .i64 f.super, .slice Ai f.ifs.length ci, .slice Af f.fds.length cf, .slice Am f.mts.length cm] 94)).alloc (.cells #[.slice A ms.length cap] 92)).heap.size = w.heap.size + 1 + 1 by simp] at this), heap_alloc_lt (heap_alloc_lt (heap_new2 w (.cells #[.slice Ap f.pool.length cp, .int .i64 f.fl, .int .i64 f.this, .int .i64 f.super, .slice Ai f.ifs.length ci, .slice Af f.fds.length cf, .slice Am f.mts.length cm] 94) (.cells #[.slice A ms.length cap] 92))), (by have := heap_new (((w.alloc (.cells #[.slice Ap f.pool.length cp, .int .i64 f.fl, .int .i64 f.this, .int .i64 f.super, .slice Ai f.ifs.length ci, .slice Af f.fds.length cf, .slice Am f.mts.length cm] 94)).alloc (.cells #[.slice A ms.length cap] 92)).alloc (.cells #[.func (.func 154) #[] #[]] 189)) (.cells #[.int .i64 0] 3); rwa [show (((w.alloc (.cells #[.slice Ap f.pool.length cp, .int .i64 f.fl, .int .i64 f.this, .int .i64 f.super, .slice Ai f.ifs.length ci, .slice Af f.fds.length cf, .slice Am f.mts.length cm] 94)).alloc (.cells #[.slice A ms.length cap] 92)).alloc (.cells #[.func (.func 154) #[] #[]] 189)).heap.size = w.heap.size + 1 + 1 + 1 by simp] at this),
      (((hf.alloc hB (.cells #[.slice Ap f.pool.length cp, .int .i64 f.fl, .int .i64 f.this, .int .i64 f.super, .slice Ai f.ifs.length ci, .slice Af f.fds.length cf, .slice Am f.mts.length cm] 94)).alloc (le_alloc hB _) (.cells #[.slice A ms.length cap] 92)).alloc (le_alloc (le_alloc hB _) _) (.cells #[.func (.func 154) #[] #[]] 189)).alloc (le_alloc (le_alloc (le_alloc hB _) _) _) (.cells #[.int .i64 0] 3),
      hm.keep (fun p hp => by rw [World.cell?_alloc_lt _ _ _ (by simp; omega), World.cell?_alloc_lt _ _ _ (by simp; omega), World.cell?_alloc_lt _ _ _ (by simp; omega), World.cell?_alloc_lt _ _ _ (by omega)]),
      le_alloc (le_alloc (le_alloc (le_alloc hB _) _) _) _⟩
  have HENV := Lib.hid HENV0
  have BE4 := Lib.hid (BE.out.alloc (le_alloc (le_alloc (le_alloc (Nat.le_refl _) _) _) _) (.cells #[.int .i64 0] 3))
  clear HENV0 hi hf hm
  have HPC0 := Lib.hid hp0
  have HPC1 := Lib.hid hp1
  have HPC2 := Lib.hid hp2
  clear hp0 hp1 hp2
  go_enter Tryz.func150, Tryz.ntmps150
  go_wp2
  go_step3
  go_wp2
  go_step3
  go_wp2
  go_loopg [9, 10] ms.length (fun g ev iv wx => ∃ (k I : Nat) (E : Int), ev = .int .i64 E ∧ iv = .pointer (some ⟨I, 0, none⟩) ∧ firstErr (memE [hdE f.pool f.fl 2 sigE, specE f.pool, bodyE f.pool] (sameM f.pool) ms) (List.range k) = E ∧ k + g = ms.length ∧ MEnv B 154 w.heap.size (w.heap.size + 1 + 1) (w.heap.size + 1) I Ap cp Ai ci Af cf Am cm f A cap ms k wx ∧ Below w.heap.size w wx)
  case atStart => exact ⟨0, _, 0, rfl, rfl, rfl, by omega, HENV.out, BE4.out⟩
  case round =>
    obtain ⟨k, I, E, rfl, rfl, hE, hkg, henv, hbel⟩ := hrel
    have HEK := Lib.hid hE
    have EN := Lib.hid henv
    have BEL := Lib.hid hbel
    have i0 : wr.cell? ⟨I, 0, none⟩ = some (.int .i64 (k : Int)) := cells_of henv.ibox 0
    have l0 : wr.cell? ⟨w.heap.size + 1, 0, none⟩ = some (.slice A ms.length cap) := cells_of henv.lbox 0
    clear hE henv hbel
    by_cases hk : k < ms.length
    · by_cases hE0 : E = 0
      · subst hE0
        have hgg : gk - 1 < gk := by omega
        obtain ⟨x, hx⟩ : ∃ x, ms[k]? = some x := ⟨_, List.getElem?_eq_getElem hk⟩
        obtain ⟨b, o, A', c', rfl, hbB, hrow, y0, y1, y2, y3, y4, y5, y6⟩ := EN.out.rows.at_ hx
        have hcap := EN.out.rows.cap_le
        have hkc : k ≤ cap := by omega
        have HX := Lib.hid hx
        have HROW := Lib.hid hrow
        have HNX := Lib.hid (range_next HEK.out)
        have HME := Lib.hid (show memE [hdE f.pool f.fl 2 sigE, specE f.pool, bodyE f.pool] (sameM f.pool) ms k = if firstErr (fun g => g x) [hdE f.pool f.fl 2 sigE, specE f.pool, bodyE f.pool] = 0 then (if (ms.take k).any (fun d => sameM f.pool d x) = true then 15 else 0) else firstErr (fun g => g x) [hdE f.pool f.fl 2 sigE, specE f.pool, bodyE f.pool] by unfold memE; rw [hx])
        clear hx hrow
        have p0 : wr.cell? ⟨pb, 0, none⟩ = some (.func (.func 155) #[] #[]) := (BEL.out.cell (p := ⟨pb, 0, none⟩) hpb).trans HPC0.out
        have p1 : wr.cell? ⟨pb, 1, none⟩ = some (.func (.func 156) #[] #[]) := (BEL.out.cell (p := ⟨pb, 1, none⟩) hpb).trans HPC1.out
        have p2 : wr.cell? ⟨pb, 2, none⟩ = some (.func (.func 157) #[] #[]) := (BEL.out.cell (p := ⟨pb, 2, none⟩) hpb).trans HPC2.out
        obtain ⟨c0, c1, c2, c3, c4, c5, c6⟩ := EN.out.fbox.cells
        go_wp2
        refine wp_loop_rounds 4 ?_
        rw [rounds_succ]
        by_cases hz : hdE f.pool f.fl 2 sigE x = 0
        · have HZ0 := Lib.hid hz
          have HPC := show Calls Tryz.prog 155 _ wr.drew fun e w' => e = .returned (.int .i64 (0)) ∧ Below wr.drew.heap.size wr.drew w' from by have := HP0.out _ wr.drew EN.out.file.drew EN.out.le x A' c' (Row.keep HROW.out fun _ _ => rfl); rwa [hz] at this
          have HPC := Lib.hid HPC
          clear hz
          go_wp2
          refine wp_region_still_tail 6 (by kernel_rfl) (by kernel_rfl) ?_
          change wpStill _ _ wr.drew _ _ _
          simp only [List.take_succ_cons, List.take_zero, List.drop_succ_cons, List.drop_zero]
          repeat still_step
          refine wpStill_nil ?_
          change wpList _ _ _ _ _ wr.drew
          go_wp2_with fail
          refine (HPC.out).mono ?_
          rintro e w1 ⟨rfl, hb⟩
          have EN1 := Lib.hid (EN.out.drew.below hb (Nat.le_refl _))
          have BL1 := Lib.hid (Below.link BEL.out.drew hb)
          have RW1 := Lib.hid (Row.keep (w' := w1) HROW.out fun p hp => hb.cell (p := p) (show p.block < wr.heap.size from Nat.lt_of_lt_of_le hp EN.out.le))
          have y0_1 := keepc (W := wr.drew) hb (B := B) hbB EN.out.le y0
          have y1_1 := keepc (W := wr.drew) hb (B := B) hbB EN.out.le y1
          have y2_1 := keepc (W := wr.drew) hb (B := B) hbB EN.out.le y2
          have y3_1 := keepc (W := wr.drew) hb (B := B) hbB EN.out.le y3
          have y4_1 := keepc (W := wr.drew) hb (B := B) hbB EN.out.le y4
          have y5_1 := keepc (W := wr.drew) hb (B := B) hbB EN.out.le y5
          have y6_1 := keepc (W := wr.drew) hb (B := B) hbB EN.out.le y6
          clear y0 y1 y2 y3 y4 y5 y6
          clear hb HPC
          clear i0 l0 c0 c1 c2 c3 c4 c5 c6 p0 p1 p2
          have i0 : w1.cell? ⟨I, 0, none⟩ = some (.int .i64 (k : Int)) := cells_of EN1.out.ibox 0
          have l0 : w1.cell? ⟨w.heap.size + 1, 0, none⟩ = some (.slice (some ⟨b, o, none⟩) ms.length cap) := cells_of EN1.out.lbox 0
          obtain ⟨c0, c1, c2, c3, c4, c5, c6⟩ := EN1.out.fbox.cells
          have p0 : w1.cell? ⟨pb, 0, none⟩ = some (.func (.func 155) #[] #[]) := (BL1.out.cell (p := ⟨pb, 0, none⟩) hpb).trans HPC0.out
          have p1 : w1.cell? ⟨pb, 1, none⟩ = some (.func (.func 156) #[] #[]) := (BL1.out.cell (p := ⟨pb, 1, none⟩) hpb).trans HPC1.out
          have p2 : w1.cell? ⟨pb, 2, none⟩ = some (.func (.func 157) #[] #[]) := (BL1.out.cell (p := ⟨pb, 2, none⟩) hpb).trans HPC2.out
          go_wp2
          rw [rounds_succ]
          by_cases hz : specE f.pool x = 0
          · have HZ1 := Lib.hid hz
            have HPC := show Calls Tryz.prog 156 _ w1.drew fun e w' => e = .returned (.int .i64 (0)) ∧ Below w1.drew.heap.size w1.drew w' from by have := HP1.out _ w1.drew EN1.out.file.drew EN1.out.le x A' c' (Row.keep RW1.out fun _ _ => rfl); rwa [hz] at this
            have HPC := Lib.hid HPC
            clear hz
            go_wp2
            refine wp_region_still_tail 6 (by kernel_rfl) (by kernel_rfl) ?_
            change wpStill _ _ w1.drew _ _ _
            simp only [List.take_succ_cons, List.take_zero, List.drop_succ_cons, List.drop_zero]
            repeat still_step
            refine wpStill_nil ?_
            change wpList _ _ _ _ _ w1.drew
            go_wp2_with fail
            refine (HPC.out).mono ?_
            rintro e w2 ⟨rfl, hb⟩
            have EN2 := Lib.hid (EN1.out.drew.below hb (Nat.le_refl _))
            have BL2 := Lib.hid (Below.link BL1.out.drew hb)
            have RW2 := Lib.hid (Row.keep (w' := w2) RW1.out fun p hp => hb.cell (p := p) (show p.block < w1.heap.size from Nat.lt_of_lt_of_le hp EN1.out.le))
            have y0_2 := keepc (W := w1.drew) hb (B := B) hbB EN1.out.le y0_1
            have y1_2 := keepc (W := w1.drew) hb (B := B) hbB EN1.out.le y1_1
            have y2_2 := keepc (W := w1.drew) hb (B := B) hbB EN1.out.le y2_1
            have y3_2 := keepc (W := w1.drew) hb (B := B) hbB EN1.out.le y3_1
            have y4_2 := keepc (W := w1.drew) hb (B := B) hbB EN1.out.le y4_1
            have y5_2 := keepc (W := w1.drew) hb (B := B) hbB EN1.out.le y5_1
            have y6_2 := keepc (W := w1.drew) hb (B := B) hbB EN1.out.le y6_1
            clear y0_1 y1_1 y2_1 y3_1 y4_1 y5_1 y6_1
            clear hb HPC
            clear i0 l0 c0 c1 c2 c3 c4 c5 c6 p0 p1 p2
            have i0 : w2.cell? ⟨I, 0, none⟩ = some (.int .i64 (k : Int)) := cells_of EN2.out.ibox 0
            have l0 : w2.cell? ⟨w.heap.size + 1, 0, none⟩ = some (.slice (some ⟨b, o, none⟩) ms.length cap) := cells_of EN2.out.lbox 0
            obtain ⟨c0, c1, c2, c3, c4, c5, c6⟩ := EN2.out.fbox.cells
            have p0 : w2.cell? ⟨pb, 0, none⟩ = some (.func (.func 155) #[] #[]) := (BL2.out.cell (p := ⟨pb, 0, none⟩) hpb).trans HPC0.out
            have p1 : w2.cell? ⟨pb, 1, none⟩ = some (.func (.func 156) #[] #[]) := (BL2.out.cell (p := ⟨pb, 1, none⟩) hpb).trans HPC1.out
            have p2 : w2.cell? ⟨pb, 2, none⟩ = some (.func (.func 157) #[] #[]) := (BL2.out.cell (p := ⟨pb, 2, none⟩) hpb).trans HPC2.out
            go_wp2
            rw [rounds_succ]
            by_cases hz : bodyE f.pool x = 0
            · have HZ2 := Lib.hid hz
              have HPC := show Calls Tryz.prog 157 _ w2.drew fun e w' => e = .returned (.int .i64 (0)) ∧ Below w2.drew.heap.size w2.drew w' from by have := HP2.out _ w2.drew EN2.out.file.drew EN2.out.le x A' c' (Row.keep RW2.out fun _ _ => rfl); rwa [hz] at this
              have HPC := Lib.hid HPC
              clear hz
              go_wp2
              refine wp_region_still_tail 6 (by kernel_rfl) (by kernel_rfl) ?_
              change wpStill _ _ w2.drew _ _ _
              simp only [List.take_succ_cons, List.take_zero, List.drop_succ_cons, List.drop_zero]
              repeat still_step
              refine wpStill_nil ?_
              change wpList _ _ _ _ _ w2.drew
              go_wp2_with fail
              refine (HPC.out).mono ?_
              rintro e w3 ⟨rfl, hb⟩
              have EN3 := Lib.hid (EN2.out.drew.below hb (Nat.le_refl _))
              have BL3 := Lib.hid (Below.link BL2.out.drew hb)
              have RW3 := Lib.hid (Row.keep (w' := w3) RW2.out fun p hp => hb.cell (p := p) (show p.block < w2.heap.size from Nat.lt_of_lt_of_le hp EN2.out.le))
              have y0_3 := keepc (W := w2.drew) hb (B := B) hbB EN2.out.le y0_2
              have y1_3 := keepc (W := w2.drew) hb (B := B) hbB EN2.out.le y1_2
              have y2_3 := keepc (W := w2.drew) hb (B := B) hbB EN2.out.le y2_2
              have y3_3 := keepc (W := w2.drew) hb (B := B) hbB EN2.out.le y3_2
              have y4_3 := keepc (W := w2.drew) hb (B := B) hbB EN2.out.le y4_2
              have y5_3 := keepc (W := w2.drew) hb (B := B) hbB EN2.out.le y5_2
              have y6_3 := keepc (W := w2.drew) hb (B := B) hbB EN2.out.le y6_2
              clear y0_2 y1_2 y2_2 y3_2 y4_2 y5_2 y6_2
              clear hb HPC
              clear i0 l0 c0 c1 c2 c3 c4 c5 c6 p0 p1 p2
              have i0 : w3.cell? ⟨I, 0, none⟩ = some (.int .i64 (k : Int)) := cells_of EN3.out.ibox 0
              have l0 : w3.cell? ⟨w.heap.size + 1, 0, none⟩ = some (.slice (some ⟨b, o, none⟩) ms.length cap) := cells_of EN3.out.lbox 0
              obtain ⟨c0, c1, c2, c3, c4, c5, c6⟩ := EN3.out.fbox.cells
              have p0 : w3.cell? ⟨pb, 0, none⟩ = some (.func (.func 155) #[] #[]) := (BL3.out.cell (p := ⟨pb, 0, none⟩) hpb).trans HPC0.out
              have p1 : w3.cell? ⟨pb, 1, none⟩ = some (.func (.func 156) #[] #[]) := (BL3.out.cell (p := ⟨pb, 1, none⟩) hpb).trans HPC1.out
              have p2 : w3.cell? ⟨pb, 2, none⟩ = some (.func (.func 157) #[] #[]) := (BL3.out.cell (p := ⟨pb, 2, none⟩) hpb).trans HPC2.out
              go_wp2
              rw [rounds_succ]
              have HPZ := Lib.hid (show firstErr (fun g => g x) [hdE f.pool f.fl 2 sigE, specE f.pool, bodyE f.pool] = 0 by simp only [firstErr]; rw [if_pos HZ0.out, if_pos HZ1.out, if_pos HZ2.out])
              cases hany : (ms.take k).any (fun d => sameM f.pool d x)
              · have HCE := Lib.hid (show memE [hdE f.pool f.fl 2 sigE, specE f.pool, bodyE f.pool] (sameM f.pool) ms k = 0 by rw [HME.out, if_pos HPZ.out, hany]; rfl)
                have HCC := Lib.hid (ContainsM w3 EN3.out x HX.out)
                rw [hany] at HCC
                clear hany
                go_wp2_with fail
                refine HCC.out.mono ?_
                rintro e w9 ⟨rfl, hb⟩
                have EN9 := Lib.hid (EN3.out.below hb (Nat.le_refl _))
                have BL9 := Lib.hid (Below.link BL3.out hb)
                clear hb i0 l0 c0 c1 c2 c3 c4 c5 c6 p0 p1 p2
                have i0 : w9.cell? ⟨I, 0, none⟩ = some (.int .i64 (k : Int)) := cells_of EN9.out.ibox 0
                go_wp2
                go_roundg (gk - 1)
                case measure => exact hgg
                case rel => exact ⟨k + 1, _, 0, rfl, rfl, by rw [HNX.out]; exact HCE.out, by omega, MEnv.next EN9.out, BL9.out.alloc (by have := BL9.out.size; omega) _⟩
              · have HCE := Lib.hid (show memE [hdE f.pool f.fl 2 sigE, specE f.pool, bodyE f.pool] (sameM f.pool) ms k = 15 by rw [HME.out, if_pos HPZ.out, hany]; rfl)
                have HCC := Lib.hid (ContainsM w3 EN3.out x HX.out)
                rw [hany] at HCC
                clear hany
                go_wp2_with fail
                refine HCC.out.mono ?_
                rintro e w9 ⟨rfl, hb⟩
                have EN9 := Lib.hid (EN3.out.below hb (Nat.le_refl _))
                have BL9 := Lib.hid (Below.link BL3.out hb)
                clear hb i0 l0 c0 c1 c2 c3 c4 c5 c6 p0 p1 p2
                have i0 : w9.cell? ⟨I, 0, none⟩ = some (.int .i64 (k : Int)) := cells_of EN9.out.ibox 0
                go_wp2
                go_roundg (gk - 1)
                case measure => exact hgg
                case rel => exact ⟨k + 1, _, 15, rfl, rfl, by rw [HNX.out]; exact HCE.out, by omega, MEnv.next EN9.out, BL9.out.alloc (by have := BL9.out.size; omega) _⟩
            · have HCE := Lib.hid (show memE [hdE f.pool f.fl 2 sigE, specE f.pool, bodyE f.pool] (sameM f.pool) ms k = bodyE f.pool x from memE_bad HX.out (by simp only [firstErr]; rw [if_pos HZ0.out, if_pos HZ1.out, if_neg hz]) hz)
              have HPC := Lib.hid (show Calls Tryz.prog 157 _ w2.drew fun e w' => e = .returned (.int .i64 (bodyE f.pool x)) ∧ Below w2.drew.heap.size w2.drew w' from by have := HP2.out _ w2.drew EN2.out.file.drew EN2.out.le x A' c' (Row.keep RW2.out fun _ _ => rfl); exact this)
              have hne : (bodyE f.pool x == 0) = false := by simpa using hz
              have HNE := Lib.hid hne
              generalize hq : bodyE f.pool x = Q at *
              clear hz hq
              go_wp2
              refine wp_region_still_tail 6 (by kernel_rfl) (by kernel_rfl) ?_
              change wpStill _ _ w2.drew _ _ _
              simp only [List.take_succ_cons, List.take_zero, List.drop_succ_cons, List.drop_zero]
              repeat still_step
              refine wpStill_nil ?_
              change wpList _ _ _ _ _ w2.drew
              go_wp2_with fail
              refine (HPC.out).mono ?_
              rintro e w3 ⟨rfl, hb⟩
              have EN3 := Lib.hid (EN2.out.drew.below hb (Nat.le_refl _))
              have BL3 := Lib.hid (Below.link BL2.out.drew hb)
              have RW3 := Lib.hid (Row.keep (w' := w3) RW2.out fun p hp => hb.cell (p := p) (show p.block < w2.heap.size from Nat.lt_of_lt_of_le hp EN2.out.le))
              clear hb HPC
              clear i0 l0 c0 c1 c2 c3 c4 c5 c6 p0 p1 p2
              have i0 : w3.cell? ⟨I, 0, none⟩ = some (.int .i64 (k : Int)) := cells_of EN3.out.ibox 0
              go_wp2
              go_roundg (gk - 1)
              case measure => exact hgg
              case rel => exact ⟨k + 1, _, _, rfl, rfl, by rw [HNX.out]; exact HCE.out, by omega, MEnv.next EN3.out, BL3.out.alloc (by have := BL3.out.size; omega) _⟩
          · have HCE := Lib.hid (show memE [hdE f.pool f.fl 2 sigE, specE f.pool, bodyE f.pool] (sameM f.pool) ms k = specE f.pool x from memE_bad HX.out (by simp only [firstErr]; rw [if_pos HZ0.out, if_neg hz]) hz)
            have HPC := Lib.hid (show Calls Tryz.prog 156 _ w1.drew fun e w' => e = .returned (.int .i64 (specE f.pool x)) ∧ Below w1.drew.heap.size w1.drew w' from by have := HP1.out _ w1.drew EN1.out.file.drew EN1.out.le x A' c' (Row.keep RW1.out fun _ _ => rfl); exact this)
            have hne : (specE f.pool x == 0) = false := by simpa using hz
            have HNE := Lib.hid hne
            generalize hq : specE f.pool x = Q at *
            clear hz hq
            go_wp2
            refine wp_region_still_tail 6 (by kernel_rfl) (by kernel_rfl) ?_
            change wpStill _ _ w1.drew _ _ _
            simp only [List.take_succ_cons, List.take_zero, List.drop_succ_cons, List.drop_zero]
            repeat still_step
            refine wpStill_nil ?_
            change wpList _ _ _ _ _ w1.drew
            go_wp2_with fail
            refine (HPC.out).mono ?_
            rintro e w2 ⟨rfl, hb⟩
            have EN2 := Lib.hid (EN1.out.drew.below hb (Nat.le_refl _))
            have BL2 := Lib.hid (Below.link BL1.out.drew hb)
            have RW2 := Lib.hid (Row.keep (w' := w2) RW1.out fun p hp => hb.cell (p := p) (show p.block < w1.heap.size from Nat.lt_of_lt_of_le hp EN1.out.le))
            clear hb HPC
            clear i0 l0 c0 c1 c2 c3 c4 c5 c6 p0 p1 p2
            have i0 : w2.cell? ⟨I, 0, none⟩ = some (.int .i64 (k : Int)) := cells_of EN2.out.ibox 0
            go_wp2
            go_roundg (gk - 1)
            case measure => exact hgg
            case rel => exact ⟨k + 1, _, _, rfl, rfl, by rw [HNX.out]; exact HCE.out, by omega, MEnv.next EN2.out, BL2.out.alloc (by have := BL2.out.size; omega) _⟩
        · have HCE := Lib.hid (show memE [hdE f.pool f.fl 2 sigE, specE f.pool, bodyE f.pool] (sameM f.pool) ms k = hdE f.pool f.fl 2 sigE x from memE_bad HX.out (by simp only [firstErr]; rw [if_neg hz]) hz)
          have HPC := Lib.hid (show Calls Tryz.prog 155 _ wr.drew fun e w' => e = .returned (.int .i64 (hdE f.pool f.fl 2 sigE x)) ∧ Below wr.drew.heap.size wr.drew w' from by have := HP0.out _ wr.drew EN.out.file.drew EN.out.le x A' c' (Row.keep HROW.out fun _ _ => rfl); exact this)
          have hne : (hdE f.pool f.fl 2 sigE x == 0) = false := by simpa using hz
          have HNE := Lib.hid hne
          generalize hq : hdE f.pool f.fl 2 sigE x = Q at *
          clear hz hq
          go_wp2
          refine wp_region_still_tail 6 (by kernel_rfl) (by kernel_rfl) ?_
          change wpStill _ _ wr.drew _ _ _
          simp only [List.take_succ_cons, List.take_zero, List.drop_succ_cons, List.drop_zero]
          repeat still_step
          refine wpStill_nil ?_
          change wpList _ _ _ _ _ wr.drew
          go_wp2_with fail
          refine (HPC.out).mono ?_
          rintro e w1 ⟨rfl, hb⟩
          have EN1 := Lib.hid (EN.out.drew.below hb (Nat.le_refl _))
          have BL1 := Lib.hid (Below.link BEL.out.drew hb)
          have RW1 := Lib.hid (Row.keep (w' := w1) HROW.out fun p hp => hb.cell (p := p) (show p.block < wr.heap.size from Nat.lt_of_lt_of_le hp EN.out.le))
          clear hb HPC
          clear i0 l0 c0 c1 c2 c3 c4 c5 c6 p0 p1 p2
          have i0 : w1.cell? ⟨I, 0, none⟩ = some (.int .i64 (k : Int)) := cells_of EN1.out.ibox 0
          go_wp2
          go_roundg (gk - 1)
          case measure => exact hgg
          case rel => exact ⟨k + 1, _, _, rfl, rfl, by rw [HNX.out]; exact HCE.out, by omega, MEnv.next EN1.out, BL1.out.alloc (by have := BL1.out.size; omega) _⟩
      · have hne : (E == 0) = false := by simpa using hE0
        have HST := Lib.hid (range_over (n := ms.length) (by omega) HEK.out hE0)
        go_wp2
        try rw [Exit.noGoto_ret]
        go_ret
        exact ⟨ret_i (by rw [HR.out, HST.out]), BEL.out⟩
    · have hke : k = ms.length := by omega
      have HALL := Lib.hid (show firstErr (memE [hdE f.pool f.fl 2 sigE, specE f.pool, bodyE f.pool] (sameM f.pool) ms) (List.range ms.length) = E by rw [← hke]; exact HEK.out)
      clear hke
      go_wp2
      try rw [Exit.noGoto_ret]
      go_ret
      exact ⟨ret_i (by rw [HR.out, HALL.out]), BEL.out⟩
end Go.Proofs.YtmaknddlgppinaaGreatDoor
