/-
  CUT and joined from the texts of this seat: Rj Rn Mh Of Ka Lz
-/
import Derived.Test.YtmaknddlgppinaaGreatDoorZ38
import Derived.Test.YtmaknddlgppinaaGreatDoorZ40
import Derived.Test.YtmaknddlgppinaaGreatDoorZ27
import Derived.Test.YtmaknddlgppinaaGreatDoorZ36
import Derived.Test.YtmaknddlgppinaaGreatDoorZ37
import Derived.Test.YtmaknddlgppinaaGreatDoorZ31
import Derived.Test.YtmaknddlgppinaaGreatDoorZ32
import Derived.Test.YtmaknddlgppinaaGreatDoorZ05
import Derived.Test.YtmaknddlgppinaaGreatDoorZ30
import Derived.Test.YtmaknddlgppinaaGreatDoorTie
import Derived.ProofKit
import Derived.OpenShut
import Derived.ShutString
import Derived.ChangeOld
import Derived.Below
import Derived.Carry
import Derived.Lib.SmallJoins
import Derived.SizedLaws
import Derived.Deep.Slices
import Derived.LaidMore
import Derived.Stop.Joined
set_option linter.unusedVariables false
set_option linter.unusedSimpArgs false
namespace Go.Proofs.YtmaknddlgppinaaGreatDoor
open Go.RowKit
theorem refConst_raw {B : Nat} (f : Fl) (v : Value) (w : World) (hf : FileAt B w v f) (hB : B ≤ w.heap.size) (ht : ∀ i, (textP f.pool i).size ≤ 1000000) (c : Cn) (hc : c.text.size ≤ 1000000) (h0 : constE f.pool c = 0) (h1 : c.tag = 1 ∨ c.tag = 4) :
  Calls Tryz.prog 125 #[v, constV c] w fun e w' => e = .returned (.int .i64 0) ∧ Below w.heap.size w w' := by
 obtain ⟨t, text, n, a, b, d⟩ := c
 unfold constV
 simp only at hc h1 ⊢
 rcases h1 with rfl | rfl
 ·rw [← h0]
  exact refConst_1 f v w hf hB ht text hc n a b d
 ·rw [← h0]
  exact refConst_4 f v w hf hB ht text hc n a b d
set_option maxRecDepth 1000000 in
set_option maxHeartbeats 12800000 in
theorem refParts_raw {B : Nat} (f : Fl) (v : Value) (w : World) (hf : FileAt B w v f) (hB : B ≤ w.heap.size) (ht : ∀ i, (textP f.pool i).size ≤ 1000000) (hx : ∀ c ∈ f.pool, c.text.size ≤ 1000000)
    (hfd : f.fds.length = 0) (hmt : f.mts.length = 0) (hp : f.pool.length ≤ 2000) (hcs : ∀ c ∈ f.pool, constE f.pool c = 0 ∧ (c.tag = 1 ∨ c.tag = 4)) (hce : classE f = 0) :
    Calls Tryz.prog 115 #[v] w fun e w' => e = .returned (.int .i64 0) ∧ Below w.heap.size w w' := by
  obtain ⟨hm1, hm2, hm3, hm4⟩ := hf.max
  have HCO := Lib.hid (fun V W hW hWB c hc => refConst_raw (B := B) f V W hW hWB ht c (hx c hc) (hcs c hc).1 (hcs c hc).2)
  have HHE := Lib.hid (fun V W hW hWB => show Calls Tryz.prog 126 #[V] W _ from (hce ▸ refHead_any (B := B) f V W hW hWB : Calls Tryz.prog 126 #[V] W fun e w' => e = .returned (.int .i64 0) ∧ Below W.heap.size W w'))
  obtain ⟨Ap, cp, Ai, ci, Af, cf, Am, cm, rfl, hi⟩ := id hf
  have HI := Lib.hid hi
  have FL0 := Lib.hid (hf.alloc hB (.cells #[.slice Ap f.pool.length cp, .int .i64 f.fl, .int .i64 f.this, .int .i64 f.super, .slice Ai f.ifs.length ci, .slice Af f.fds.length cf, .slice Am f.mts.length cm] 94))
  have BE0 := Lib.hid ((Below.refl w.heap.size w).alloc (Nat.le_refl _) (.cells #[.slice Ap f.pool.length cp, .int .i64 f.fl, .int .i64 f.this, .int .i64 f.super, .slice Ai f.ifs.length ci, .slice Af f.fds.length cf, .slice Am f.mts.length cm] 94))
  have BF0 := Lib.hid (FBox.new Ap cp Ai ci Af cf Am cm f w)
  clear hi hf ht hx hcs hce
  have hl1' : (f.pool.length : Int) ≤ 2000 := by omega
  have hfd' : (f.fds.length : Int) ≤ 0 := by omega
  have hmt' : (f.mts.length : Int) ≤ 0 := by omega
  obtain ⟨nf, hnf⟩ : ∃ n, n = f.fds.length := ⟨_, rfl⟩
  obtain ⟨nm, hnm⟩ : ∃ n, n = f.mts.length := ⟨_, rfl⟩
  clear hnf hnm nf nm hfd hmt
  go_enter Tryz.func115, Tryz.ntmps115
  go_wp2
  go_loopg [3] f.pool.length (fun g iv wx => ∃ k : Nat, iv = .int .i64 k ∧ k + g = f.pool.length ∧ FileAt B wx (.agg #[.slice Ap f.pool.length cp, .int .i64 f.fl, .int .i64 f.this, .int .i64 f.super, .slice Ai f.ifs.length ci, .slice Af f.fds.length cf, .slice Am f.mts.length cm]) f ∧ FBox w.heap.size Ap cp Ai ci Af cf Am cm f wx ∧ Below w.heap.size w wx)
  case atStart => exact ⟨0, rfl, by omega, FL0.out, BF0.out, BE0.out⟩
  case round =>
    obtain ⟨k, rfl, hkg, hfl, hbf, hbe⟩ := hrel
    have FL1 := Lib.hid hfl
    have BF1 := Lib.hid hbf
    have BE1 := Lib.hid hbe
    have ltBF1 := hbf.lt
    clear hfl hbf hbe
    obtain ⟨c0, c1, c2, c3, c4, c5, c6⟩ := BF1.out.cells
    by_cases hlt : k < f.pool.length
    · have hgg : gk - 1 < gk := by omega
      obtain ⟨c, hc⟩ : ∃ c, f.pool[k]? = some c := ⟨_, List.getElem?_eq_getElem hlt⟩
      have HCM := Lib.hid (List.mem_of_getElem? hc)
      have hI1 := HI.out.keep (w' := wr) (fun p hp => BE1.out.cell (p := p) (by omega))
      obtain ⟨p0, o0, rfl, hbb, x0, x1, x2, x3, x4, x5⟩ := hI1.pool.at_ hc
      have hwk : IntKind.i64.wrap (k : Int) = k := IntWalk.i64_in _ (by omega)
      have hlk : (k : Int) < f.pool.length := by omega
      have hpw : p0 < w.heap.size + 1 := by omega
      clear hc hI1
      go_wp2
      have FLd := FL1.out.drew
      have BEd := BE1.out
      have BFd := BF1.out
      have hsz : w.heap.size + 1 ≤ wr.heap.size := by omega
      go_region_held3 (fun w' => w'.cell? ⟨w.heap.size, 0, none⟩ = some (.slice (some ⟨p0, o0, none⟩) f.pool.length cp) ∧ w'.cell? ⟨w.heap.size, 1, none⟩ = some (.int .i64 f.fl) ∧ w'.cell? ⟨w.heap.size, 2, none⟩ = some (.int .i64 f.this) ∧ w'.cell? ⟨w.heap.size, 3, none⟩ = some (.int .i64 f.super) ∧ w'.cell? ⟨w.heap.size, 4, none⟩ = some (.slice Ai f.ifs.length ci) ∧ w'.cell? ⟨w.heap.size, 5, none⟩ = some (.slice Af f.fds.length cf) ∧ w'.cell? ⟨w.heap.size, 6, none⟩ = some (.slice Am f.mts.length cm) ∧ w'.cell? ⟨p0, o0 + k * 6, none⟩ = some (.int .i64 c.tag) ∧ w'.cell? ⟨p0, o0 + k * 6 + 1, none⟩ = some (.string c.text) ∧ w'.cell? ⟨p0, o0 + k * 6 + 2, none⟩ = some (.int .i64 c.n) ∧ w'.cell? ⟨p0, o0 + k * 6 + 3, none⟩ = some (.int .i64 c.a) ∧ w'.cell? ⟨p0, o0 + k * 6 + 4, none⟩ = some (.int .i64 c.b) ∧ w'.cell? ⟨p0, o0 + k * 6 + 5, none⟩ = some (.int .i64 c.c) ∧ FileAt B w' (.agg #[.slice (some ⟨p0, o0, none⟩) f.pool.length cp, .int .i64 f.fl, .int .i64 f.this, .int .i64 f.super, .slice Ai f.ifs.length ci, .slice Af f.fds.length cf, .slice Am f.mts.length cm]) f ∧ w.heap.size + 1 ≤ w'.heap.size ∧ Below w.heap.size w w' ∧ FBox w.heap.size (some ⟨p0, o0, none⟩) cp Ai ci Af cf Am cm f w')
        (first
          | exact ⟨c0, c1, c2, c3, c4, c5, c6, x0, x1, x2, x3, x4, x5, FLd, hsz, BEd.drew, BFd.drew⟩
          | (go_split_ands
             refine ⟨?_, ?_, ?_, ?_, ?_, ?_, ?_, ?_, ?_, ?_, ?_, ?_, ?_, ?_, ?_, ?_, ?_⟩
             all_goals first
               | assumption
               | exact keepc hb (B := w.heap.size + 1) (by omega) (by omega) (by assumption)
               | exact FileAt.below (by assumption) hb (by omega)
               | exact Nat.le_trans (by assumption) hb.size
               | exact Below.link (by assumption) hb
               | exact FBox.below (by assumption) hb (by omega)))
        ((go_at_call 125; refine (HCO.out _ _ (by first | assumption | (go_split_ands; assumption)) (by go_split_ands; omega) c HCM.out).mono ?_; rintro e wi ⟨rfl, hb⟩))
      clear FLd BEd BFd hsz c0 c1 c2 c3 c4 c5 c6 x0 x1 x2 x3 x4 x5
      go_split_ands
      have BEI := Lib.hid (show Below w.heap.size w wi by assumption)
      have BFI := Lib.hid (show FBox w.heap.size (some ⟨p0, o0, none⟩) cp Ai ci Af cf Am cm f wi by assumption)
      have FLI := Lib.hid (show FileAt B wi (.agg #[.slice (some ⟨p0, o0, none⟩) f.pool.length cp, .int .i64 f.fl, .int .i64 f.this, .int .i64 f.super, .slice Ai f.ifs.length ci, .slice Af f.fds.length cf, .slice Am f.mts.length cm]) f by assumption)
      go_wp2
      go_roundg (gk - 1)
      case measure => exact hgg
      case rel => exact ⟨k + 1, by go_num, by omega, FLI.out, BFI.out, BEI.out⟩
    · go_wp2_with fail
      refine (HHE.out _ _ FL1.out (by omega)).mono ?_
      rintro e w3 ⟨rfl, hb⟩
      have BE3 := Lib.hid (Below.link BE1.out hb)
      have FL3 := Lib.hid (FL1.out.below hb (Nat.le_trans hB BE1.out.size))
      have BF3 := Lib.hid (BF1.out.below hb BF1.out.lt)
      have ltBF3 := BF3.out.lt
      clear hb
      clear c0 c1 c2 c3 c4 c5 c6
      obtain ⟨c0, c1, c2, c3, c4, c5, c6⟩ := BF3.out.cells
      go_wp2
      go_loopg [6] 0 (fun g iv wx => iv = .int .i64 0 ∧ wx = w3)
      case atStart => exact ⟨rfl, rfl⟩
      case round =>
        obtain ⟨rfl, rfl⟩ := hrel
        go_wp2
        go_loopg [7] 0 (fun g iv wx => iv = .int .i64 0 ∧ wx = wr)
        case atStart => exact ⟨rfl, rfl⟩
        case round =>
          obtain ⟨rfl, rfl⟩ := hrel
          go_wp2
          go_ret
          exact ⟨rfl, BE3.out⟩
set_option maxRecDepth 1000000 in
set_option maxHeartbeats 12800000 in
theorem refRight_raw {B : Nat} (f : Fl) (v : Value) (w : World) (hf : FileAt B w v f) (hB : B ≤ w.heap.size) (ht : ∀ i, (textP f.pool i).size ≤ 1000000) (hx : ∀ c ∈ f.pool, c.text.size ≤ 1000000)
  (hfd : f.fds.length = 0) (hmt : f.mts.length = 0) (hp : f.pool.length ≤ 2000) (hcs : ∀ c ∈ f.pool, constE f.pool c = 0 ∧ (c.tag = 1 ∨ c.tag = 4)) (hce : classE f = 0) (hpe : partsE f = 0) (hl : (fileN f).length ≤ 65536) :
  Calls Tryz.prog 96 #[v] w fun e w' => e = .returned (.int .i64 0) ∧ Below w.heap.size w w' := by
 have HP := Lib.hid (fun V W hW hWB => refParts_raw (B := B) f V W hW hWB ht hx hfd hmt hp hcs hce)
 have HA1 := Lib.hid (fun V W hW hWB => refBytes_raw (B := B) f V W hW hWB hx (partsE_fine hpe) (fun c hc => (hcs c hc).2) hfd hmt)
 obtain ⟨Ap, cp, Ai, ci, Af, cf, Am, cm, rfl, hi⟩ := id hf
 have BE0 := Lib.hid ((Below.refl w.heap.size w).alloc (Nat.le_refl _) (.cells #[.slice Ap f.pool.length cp, .int .i64 f.fl, .int .i64 f.this, .int .i64 f.super, .slice Ai f.ifs.length ci, .slice Af f.fds.length cf, .slice Am f.mts.length cm] 94))
 have BF0 := Lib.hid (FBox.new Ap cp Ai ci Af cf Am cm f w)
 have FL0 := Lib.hid (hf.alloc hB (.cells #[.slice Ap f.pool.length cp, .int .i64 f.fl, .int .i64 f.this, .int .i64 f.super, .slice Ai f.ifs.length ci, .slice Af f.fds.length cf, .slice Am f.mts.length cm] 94))
 clear hi hf ht hx hcs hce hpe
 clear hfd hmt
 have hsz : (mkB (fileN f)).size = (fileN f).length := by rw [size_L, L_mkB]
 have hl' : ((mkB (fileN f)).size : Int) ≤ 65536 := by omega
 have HSZ := Lib.hid hsz
 clear hsz hl
 generalize mkB (fileN f) = S at *
 go_enter Tryz.func96, Tryz.ntmps96
 go_wp2_with fail
 refine (HP.out _ _ FL0.out (by simp; omega)).mono ?_
 rintro e w1 ⟨rfl, hb⟩
 have BE1 := Lib.hid (Below.link BE0.out hb)
 have FL1 := Lib.hid (FL0.out.below hb (Nat.le_trans hB BE0.out.size))
 have BF1 := Lib.hid (BF0.out.below hb BF0.out.lt)
 have ltBF1 := BF1.out.lt
 clear hb
 obtain ⟨c0, c1, c2, c3, c4, c5, c6⟩ := BF1.out.cells
 go_wp2_with fail
 refine (HA1.out _ _ FL1.out (Nat.le_trans hB BE1.out.size)).mono ?_
 rintro e w2 ⟨rfl, hb⟩
 have BE2 := Lib.hid (Below.link BE1.out hb)
 clear hb
 go_wp2
 go_ret
 exact ⟨rfl, BE2.out⟩
theorem results19 : Tryz.f19.results = #[ResultVar.tmp 2, ResultVar.tmp 3, ResultVar.tmp 4] := by kernel_rfl
set_option maxRecDepth 1000000 in
set_option maxHeartbeats 6400000 in
theorem RNew_any (w : World) {Bf : Nat} (fs : List Fl) (v : Value) (hf : FsRow Bf w v fs) (hBf : Bf ≤ w.heap.size) (hok : ∀ f ∈ fs, encF f = 0 → (∀ i, (classP f.pool i).size ≤ 1000000) ∧ f.ifs.length ≤ 1000)
  (hRR : ∀ f ∈ fs, ∀ (Bw : Nat) (V : Value) (W : World), FileAt Bw W V f → Bw ≤ W.heap.size → Calls Tryz.prog 96 #[V] W fun e w' => e = .returned (.int .i64 (encF f)) ∧ Below W.heap.size W w') :
  Calls Tryz.prog 19 #[v] w fun e w' => ROpenAns builtP fs w' e ∧ Below w.heap.size w w' := by
 have BT := Lib.hid (RBuilt_any w 14 (Nat.le_refl _))
 have OP := Lib.hid (fun W (hb : Below w.heap.size w W) p A cap (h : RT W.heap.size p A cap builtP 14 W) => ROpen_any h good_built fs v (hf.keep fun q hq => hb.cell (Nat.lt_of_lt_of_le hq hBf)) (Nat.le_trans hBf hb.size) hok hRR (by decide))
 obtain ⟨Af, capf, rfl, _, _⟩ := hf.form
 clear hf hok hRR
 go_enter Tryz.func19, Tryz.ntmps19
 go_wp2_with fail
 refine BT.out.mono ?_
 rintro e w1 ⟨v1, rfl, hown, hb1⟩
 obtain ⟨a1, c1, rfl⟩ := hown.form
 have O1 := Lib.hid hown
 have B1 := Lib.hid hb1
 obtain ⟨nb, hnb⟩ : ∃ n, n = builtP.length := ⟨_, rfl⟩
 have HT := Lib.hid (show RT (w1.alloc (.cells #[.slice a1 nb c1] 105)).heap.size w1.heap.size a1 c1 builtP 14 (w1.alloc (.cells #[.slice a1 nb c1] 105)) by
  rw [hnb]
  exact OT.table (base := w.heap.size) ⟨hheap_new _ _, O1.out.below B1.out.size ((Below.refl _ _).alloc (Nat.le_refl _) _), B1.out.size, by have := B1.out.size; simp; omega⟩ (by decide))
 rw [← hnb]
 clear hown hb1 hnb
 go_wp2_with fail
 refine (OP.out _ (by first | exact B1.out.alloc B1.out.size _) _ _ _ HT.out).mono ?_
 rintro e w2 ⟨ha, hb2⟩
 have B2 := Lib.hid ((B1.out.alloc B1.out.size (.cells #[.slice a1 nb c1] 105)).trans (hb2.mono (by have := B1.out.size; simp; omega)))
 clear hb2
 rcases ha with ⟨x, a, ho, rfl⟩ | ⟨ds, q, A, cap, ho, rfl, ht⟩
 ·have HO := Lib.hid ho
  clear ho
  go_wp2
  refine bodyPost_ret (v := .tuple #[.pointer none, .int .i64 ((x : Nat) : Int), .int .i64 ((a : Nat) : Int)]) (by simp [results, results19, go_sem]) rfl ?_
  exact ⟨.inl ⟨x, a, HO.out, rfl⟩, B2.out⟩
 ·have HO := Lib.hid ho
  have HT2 := Lib.hid ht
  clear ho ht
  go_wp2
  refine bodyPost_ret (v := .tuple #[.pointer (some ⟨q, 0, none⟩), .int .i64 0, .int .i64 0]) (by simp [results, results19, go_sem]) rfl ?_
  exact ⟨.inr ⟨ds, q, A, cap, HO.out, rfl, HT2.out⟩, B2.out⟩
theorem textP_few {p : List Cn} (h : ∀ c ∈ p, c.text.size ≤ 1000000) (i : Int) : (textP p i).size ≤ 1000000 := by
 unfold textP
 split
 ·rename_i c hc
  split
  ·exact h c (List.mem_of_getElem? hc)
  ·decide
 ·decide
theorem raw_few (r : Rw) : ∀ c ∈ (fileR r).pool, c.text.size ≤ 100 ∧ (c.tag = 1 ∨ c.tag = 4) := fun c hc => by
 rcases raw_mem hc with ⟨s, rfl, hs⟩ | ⟨q, s, rfl, _, _⟩
 ·have : OkN s := by rcases hs with rfl | rfl | hs; exact nmR_ok _; exact nmR_ok _; exact ifnR_ok r s hs
  exact ⟨this.size, .inl rfl⟩
 ·exact ⟨by show (0 : Nat) ≤ 100; omega, .inr rfl⟩
/-- The files of raw parts, by the document. -/
theorem raw_RR (rs : List Rw) : ∀ f ∈ filesR rs, ∀ (Bw : Nat) (V : Value) (W : World), FileAt Bw W V f → Bw ≤ W.heap.size → Calls Tryz.prog 96 #[V] W fun e w' => e = .returned (.int .i64 (encF f)) ∧ Below W.heap.size W w' := fun f h Bw V W hf hB => by
 obtain ⟨r, _, rfl⟩ := List.mem_map.1 h
 have h4 : (ifnR r).length ≤ 16 := by unfold ifnR; rw [List.length_map, List.length_take]; omega
 have hp := raw_parts (fl := flR r.fl) (nmR_ok r.nm) (nmR_ok r.sp) (ifnR_ok r) h4 (flR_in _)
 have hb := raw_bytes (fl := flR r.fl) (nmR_ok r.nm) (nmR_ok r.sp) (ifnR_ok r) h4
 have he : encF (fileR r) = 0 := raw_right (nmR_ok r.nm) (nmR_ok r.sp) (ifnR_ok r) h4 (flR_in _)
 rw [he]
 have htag := raw_few r
 have hx : ∀ c ∈ (fileR r).pool, c.text.size ≤ 1000000 := fun c hc => by have := (htag c hc).1; omega
 refine refRight_raw (fileR r) V W hf hB (fun i => ?_) hx rfl rfl ?_ (fun c hc => ⟨raw_const (nmR_ok r.nm) (nmR_ok r.sp) (ifnR_ok r) hc, (htag c hc).2⟩) ?_ hp hb
 ·exact textP_few hx i
 ·show (rawP (flR r.fl) (nmR r.nm) (nmR r.sp) (ifnR r)).pool.length ≤ 2000
  rw [raw_len]
  omega
 ·have := hp
  unfold partsE at this
  split at this
  ·split at this
   ·rename_i h1
    exact h1
   ·rename_i h1
    exact absurd this h1
  ·rename_i h1
   exact absurd this h1
theorem raw_ok (rs : List Rw) : ∀ f ∈ filesR rs, encF f = 0 → (∀ i, (classP f.pool i).size ≤ 1000000) ∧ f.ifs.length ≤ 1000 := fun f h _ => by
 obtain ⟨r, _, rfl⟩ := List.mem_map.1 h
 have hx : ∀ c ∈ (fileR r).pool, c.text.size ≤ 1000000 := fun c hc => by have := (raw_few r c hc).1; omega
 refine ⟨fun i => ?_, ?_⟩
 ·unfold classP
  split
  ·exact textP_few hx _
  ·decide
 ·have : (fileR r).ifs.length = (ifnR r).length := by show ((List.range (ifnR r).length).map _).length = _; simp
  have := ifnR_len r
  omega
theorem neq64_same (k d n : Int) (s : ByteArray) (w : World) : (binOp .neq 64 (.agg #[.int .i64 k, .int .i64 d, .string s, .int .i64 n]) (.agg #[.int .i64 k, .int .i64 d, .string s, .int .i64 n])).run Tryz.prog w = .ok (.bool false) w := by
 rw [neq64, decide_eq_true ⟨rfl, ⟨rfl, rfl⟩, rfl⟩]
 rfl
theorem neq64_diff {k d n k' d' n' : Int} {s s' : ByteArray} (h : ¬ (k = k' ∧ (d = d' ∧ s = s') ∧ n = n')) (w : World) : (binOp .neq 64 (.agg #[.int .i64 k, .int .i64 d, .string s, .int .i64 n]) (.agg #[.int .i64 k', .int .i64 d', .string s', .int .i64 n'])).run Tryz.prog w = .ok (.bool true) w := by
 rw [neq64, decide_eq_false h]
 rfl
theorem names7 : ∀ c ∈ cs7, nameL c.name = true := by decide +kernel
theorem hV7 : ∀ t, hasT cs7 t → VT t := hV_of names7
theorem all17 : ∀ q ∈ kq17, okKB cs7 q.kn = true ∧ q.2.2.1.size ≤ 1000000 := by decide +kernel
theorem ok17 {k d n : Int} {s : ByteArray} (h : (k, d, s, n) ∈ kq17) : OkK cs7 VT (⟨k, (d, L s), n⟩ : KN) := okKB_ok hV7 (all17 _ h).1
theorem sz17 {k d n : Int} {s : ByteArray} (h : (k, d, s, n) ∈ kq17) : s.size ≤ 1000000 := (all17 _ h).2
theorem yesR {k d n : Int} {s : ByteArray} {w w' : World} {e : Ending} (h : e = .returned (.bool (rightKB k d (L s) n)) ∧ Below w.heap.size w w') (hr : RightK VT (⟨k, (d, L s), n⟩ : KN)) : e = .returned (.bool true) ∧ Below w.heap.size w w' := by
 rw [(rightKB_iff k d (L s) n).2 hr] at h
 exact h
theorem known_q (c : Int) (hc : B64 c) (w : World) :
  Calls Tryz.prog 54 #[.int .i64 c] w fun e w' => ∃ k d n s, (k, d, s, n) ∈ kq17 ∧ e = .returned (.agg #[.int .i64 k, .int .i64 d, .string s, .int .i64 n]) ∧ Below w.heap.size w w' :=
 (known_any c hc w).mono fun e w' ⟨⟨k, d, s, n⟩, hm, he, hb⟩ => ⟨k, d, n, s, hm, he, hb⟩
theorem fcs7 : fcs fl7 0 = fs7 := by decide +kernel
theorem files7_ok : ∀ f ∈ fl7, FileOk f := fl7_raw ▸ filesR_texts rs7
theorem New7 {w : World} (hN : Blt w) {Bf : Nat} (v : Value) (hf : FsRow Bf w v fl7) (hB : Bf ≤ w.heap.size) :
  Calls Tryz.prog 18 #[v] w fun e w' => (∃ nb mb A cap cl sl S, e = .returned (.tuple #[.pointer (some ⟨nb, 0, none⟩), .int .i64 0, .int .i64 0]) ∧ HT w'.heap.size nb mb A cap builtP.length cs7 cl sl S w') ∧ Below w.heap.size w w' := by
 refine (New_any hN fl7 v hf hB files7_ok).mono ?_
 rintro e w' ⟨ha, hb⟩
 refine ⟨?_, hb⟩
 rcases ha with ⟨x, a, h, _⟩ | ⟨ds, nb, mb, A, cap, cl, sl, S, h, he, ht⟩
 ·rw [fcs7, open7] at h
  cases h
 ·rw [fcs7, open7] at h
  injection h with h
  subst h
  exact ⟨nb, mb, A, cap, cl, sl, S, he, ht⟩
theorem RNew7 (w : World) {Bf : Nat} (v : Value) (hf : FsRow Bf w v fl7) (hB : Bf ≤ w.heap.size) :
  Calls Tryz.prog 19 #[v] w fun e w' => (∃ q A cap, e = .returned (.tuple #[.pointer (some ⟨q, 0, none⟩), .int .i64 0, .int .i64 0]) ∧ RT w'.heap.size q A cap cs7 builtP.length w') ∧ Below w.heap.size w w' := by
 refine (RNew_any w fl7 v hf hB (fl7_raw ▸ raw_ok rs7) (fl7_raw ▸ raw_RR rs7)).mono ?_
 rintro e w' ⟨ha, hb⟩
 refine ⟨?_, hb⟩
 rcases ha with ⟨x, a, h, _⟩ | ⟨ds, q, A, cap, h, he, ht⟩
 ·rw [fcs7, open7] at h
  cases h
 ·rw [fcs7, open7] at h
  injection h with h
  subst h
  exact ⟨q, A, cap, he, ht⟩
set_option maxRecDepth 1000000 in
set_option maxHeartbeats 6400000 in
theorem tables7_any {w : World} (hN : Blt w) :
  Calls Tryz.prog 34 #[] w fun e w' => ∃ Bt nb mb A cap cl sl S pu, e = .returned (.tuple #[.pointer (some ⟨nb, 0, none⟩), .pointer (some ⟨pu, 0, none⟩)]) ∧ HT Bt nb mb A cap builtP.length cs7 cl sl S w' ∧ Below w.heap.size w w' := by
 have HN := Lib.hid hN
 clear hN
 go_enter Tryz.func34, Tryz.ntmps34
 go_wp2_with fail
 refine (files7_any _).mono ?_
 rintro e w1 ⟨v1, rfl, hf1, hb1⟩
 have F1 := Lib.hid hf1
 have B1 := Lib.hid hb1
 clear hf1 hb1
 go_wp2_with fail
 refine (New7 (HN.out.below B1.out) _ F1.out (Nat.le_refl _)).mono ?_
 rintro e w2 ⟨⟨nb, mb, A, cap, cl, sl, S, rfl, ht⟩, hb2⟩
 have HT := Lib.hid ht
 have B2 := Lib.hid (Below.hlink B1.out hb2)
 clear ht hb2 B1 F1
 go_wp2_with fail
 refine (files7_any _).mono ?_
 rintro e w3 ⟨v3, rfl, hf3, hb3⟩
 have F3 := Lib.hid hf3
 have HT3 := Lib.hid (HT.out.below (hb3.mono HT.out.hB))
 have B3 := Lib.hid (Below.hlink B2.out hb3)
 clear hf3 hb3 B2 HT
 go_wp2_with fail
 refine (RNew7 _ _ F3.out (Nat.le_refl _)).mono ?_
 rintro e w4 ⟨⟨pu, Au, cu, rfl, hu⟩, hb4⟩
 have HT4 := Lib.hid (HT3.out.below (hb4.mono HT3.out.hB))
 have B4 := Lib.hid (Below.hlink B3.out hb4)
 clear hu hb4 B3 HT3 F3
 go_wp2
 refine bodyPost_ret (v := .tuple #[.pointer (some ⟨nb, 0, none⟩), .pointer (some ⟨pu, 0, none⟩)]) (by simp [results, Tryz.results34, go_sem]) rfl ?_
 exact ⟨_, nb, mb, A, cap, cl, sl, S, pu, rfl, HT4.out, B4.out⟩
end Go.Proofs.YtmaknddlgppinaaGreatDoor
namespace Go.Proofs.YtmaknddlgppinaaGreatDoor
open Go.Joins Go.ChangeShapes Go.WideShapes Go.ChangeAt Go.RowKit Go.Deep
theorem own : ownKnob Tryz.prog.godebug = none := by kernel_rfl
theorem laidOut : laidOutB Tryz.prog = true := by kernel_rfl
theorem buildL {α : Type} {P : Nat → α → Prop} (n : Nat) (h : ∀ i, i < n → ∃ q, P i q) : ∃ xs : List α, xs.length = n ∧ ∀ i x, xs[i]? = some x → P i x := by
 induction n with
 | zero => exact ⟨[], rfl, fun i x hi => by simp at hi⟩
 | succ n ih =>
  obtain ⟨xs, hl, hx⟩ := ih (fun i hi => h i (by omega))
  obtain ⟨q, hq⟩ := h n (by omega)
  refine ⟨xs ++ [q], by simp [hl], fun i x hi => ?_⟩
  by_cases hlt : i < xs.length
  ·rw [List.getElem?_append_left hlt] at hi
   exact hx i x hi
  ·rw [List.getElem?_append_right (by omega)] at hi
   have hz : i - xs.length = 0 := by
    rcases Nat.eq_zero_or_pos (i - xs.length) with h0 | h0
    ·exact h0
    ·rw [List.getElem?_eq_none (by simp; omega)] at hi; cases hi
   rw [hz] at hi
   simp at hi
   subst hi
   have : i = n := by omega
   subst this
   exact hq
section
variable {H : Type} {enc : TypeId × Value → H} {w : World} {base : Nat} {spare : Nat → Bool} {held : Bool}
theorem k3 : Tryz.prog.cellsOf 3 = 1 := by kernel_rfl
end
theorem wf_in {z : Int} (h : (Lit.int .i64 z).wf = true) : B64 z := by
 simp only [Lit.wf, Bool.and_eq_true, decide_eq_true_eq] at h
 exact h
section
variable {H : Type} {enc : TypeId × Value → H} {w : World} {base : Nat} {spare : Nat → Bool} {held : Bool}
theorem open_rowsN {α : Type} {t e : TypeId} {size fuel : Nat} {v : Value} {x : DataW H × List MemPlace} (Q : α → List Value → Prop) (ht : Tryz.prog.underlying t = some (.slice e)) (hC : Tryz.prog.cellsOf e = size) (hs : 0 < size)
  (hel : ∀ n cs y, DataW.trod enc Tryz.prog w base spare held n e cs = some y → ∃ a : α, Q a cs) (h : DataW.trod enc Tryz.prog w base spare held fuel t [v] = some x) :
  ∃ (A : Option Addr) (cap : Nat) (ps : List (α × List Value)), v = .slice A ps.length cap ∧ ps.length ≤ cap ∧ ps.length ≤ maxLen ∧ (∀ p ∈ ps, Q p.1 p.2) ∧ Reads w w.heap.size size A ps.length (ps.flatMap (·.2)) := by
 rcases open_slice ht h with ⟨h0, _⟩ | ⟨a, len, cap, m, n, D, Pl, hcs, hb, hl, hm, hmm, hx, hi⟩
 ·obtain rfl : v = .slice none 0 0 := by simpa using h0
  exact ⟨none, 0, [], rfl, Nat.le_refl _, Nat.zero_le _, fun p hp => by simp at hp, by simp, fun hn => absurd hn (by simp)⟩
 ·obtain rfl : v = .slice (some a) len cap := by simpa using hcs
  have hlm : len ≤ m := by rw [hmm]; split <;> omega
  have key : ∀ i, i < len → ∃ q : α × List Value, Q q.1 q.2 ∧ q.2.length = size ∧ ∀ j, j < size → w.cell? ((a.add (i * size)).add j) = q.2[j]? := by
   intro i hil
   obtain ⟨cs', hc, ht'⟩ := hi i (by omega)
   rw [hC] at hc
   obtain ⟨_, hcl, hat⟩ := World.cells?_some hc
   obtain ⟨q, hq⟩ := hel _ _ _ ht'
   exact ⟨(q, cs'), hq, hcl, hat⟩
  obtain ⟨ps, hpl, hps⟩ := buildL len key
  subst hpl
  refine ⟨some a, cap, ps, rfl, hl, by omega, fun p hp => ?_, ?_, fun hn => ?_⟩
  ·obtain ⟨k, hk, rfl⟩ := List.getElem_of_mem hp
   exact (hps k _ (List.getElem?_eq_getElem hk)).1
  ·have : ∀ p ∈ ps, p.2.length = size := fun p hp => by
    obtain ⟨k, hk, rfl⟩ := List.getElem_of_mem hp
    exact (hps k _ (List.getElem?_eq_getElem hk)).2.1
   clear hps hi key hmm hlm hl hx h hcs
   induction ps with
   | nil => simp
   | cons p r ih =>
    rw [List.flatMap_cons, List.length_append, this p (by simp), ih (fun q hq => this q (by simp [hq])), List.length_cons, Nat.succ_mul]
    omega
  ·obtain ⟨p0, hp0⟩ : ∃ p, ps[0]? = some p := ⟨_, List.getElem?_eq_getElem hn⟩
   have g0 := (hps 0 p0 hp0).2.2 0 hs
   have hl0 := (hps 0 p0 hp0).2.1
   have ea : (a.add (0 * size)).add 0 = a := by simp [Addr.add]
   rw [ea, List.getElem?_eq_getElem (by omega)] at g0
   have hsp := World.cell?_spot g0
   have hlt := World.block_lt_of_cell? w _ g0
   obtain ⟨ab, ao, sp⟩ := a
   have hsp' : sp = none := hsp
   subst hsp'
   refine ⟨ab, ao, rfl, hlt, fun j u hu => ?_⟩
   have hjl : j < (ps.flatMap (·.2)).length := (List.getElem?_eq_some_iff.1 hu).1
   have hsz : ∀ p ∈ ps, p.2.length = size := fun p hp => by
    obtain ⟨k, hk, rfl⟩ := List.getElem_of_mem hp
    exact (hps k _ (List.getElem?_eq_getElem hk)).2.1
   have hfl : (ps.flatMap (·.2)).length = ps.length * size := by
    clear hps hi key hmm hlm hl hx h hcs hp0 g0 hu hjl hn
    induction ps with
    | nil => simp
    | cons p r ih =>
     rw [List.flatMap_cons, List.length_append, hsz p (by simp), ih (fun q hq => hsz q (by simp [hq])), List.length_cons, Nat.succ_mul]
     omega
   have hi' : j / size < ps.length := by
    rw [hfl] at hjl
    exact Nat.div_lt_of_lt_mul (by rw [Nat.mul_comm]; exact hjl)
   obtain ⟨p, hp⟩ : ∃ p, ps[j / size]? = some p := ⟨_, List.getElem?_eq_getElem hi'⟩
   have hr : j % size < size := Nat.mod_lt _ hs
   have hj : j = j / size * size + j % size := by rw [Nat.mul_comm]; exact (Nat.div_add_mod j size).symm
   have hq := hps _ _ hp
   have key2 : (ps.flatMap (·.2))[j / size * size + j % size]? = p.2[j % size]? := by
    have gen : ∀ (l : List (α × List Value)), (∀ p ∈ l, p.2.length = size) → ∀ (k : Nat) (x : α × List Value), l[k]? = some x → ∀ r, r < size → (l.flatMap (·.2))[k * size + r]? = x.2[r]? := by
     intro l
     induction l with
     | nil => intro _ k x hx; simp at hx
     | cons y l ih =>
      intro hl k x hx r hr
      cases k with
      | zero =>
       simp only [List.getElem?_cons_zero, Option.some.injEq] at hx
       subst hx
       rw [List.flatMap_cons, Nat.zero_mul, Nat.zero_add, List.getElem?_append_left (by rw [hl _ (by simp)]; exact hr)]
      | succ k =>
       simp only [List.getElem?_cons_succ] at hx
       rw [List.flatMap_cons, List.getElem?_append_right (by rw [hl _ (by simp), Nat.succ_mul]; omega), hl _ (by simp)]
       rw [show (k + 1) * size + r - size = k * size + r by rw [Nat.succ_mul]; omega]
       exact ih (fun q hq => hl q (by simp [hq])) k x hx r hr
    exact gen ps hsz _ p hp _ hr
   rw [hj] at hu ⊢
   rw [key2, ← hq.2.2 _ hr] at hu
   rw [add_of_add, plain_add] at hu
   exact hu
theorem open_nums {fuel : Nat} {v : Value} {x : DataW H × List MemPlace} (h : DataW.trod enc Tryz.prog w base spare held fuel 29 [v] = some x) : ∃ l : List Int, IRow w.heap.size w v l ∧ ∀ z ∈ l, B64 z := by
 obtain ⟨A, cap, ps, rfl, hl, hm, hq, hr⟩ := open_rowsN (fun (c : Int) cs => cs = [.int .i64 c] ∧ B64 c) Tryz.underlying29 (size := 1) (by kernel_rfl) (by omega) (fun n cs y h => by
  obtain ⟨z0, hz0, _, hw0⟩ := DataW.trod_int Tryz.underlying3 h
  exact ⟨z0, hz0, wf_in hw0⟩) h
 have e : ps.flatMap (·.2) = (ps.map (·.1)).map (fun z => Value.int .i64 z) := by
  clear hl hm hr h
  induction ps with
  | nil => rfl
  | cons p r ih =>
   rw [List.flatMap_cons, ih (fun q hq' => hq q (by simp [hq'])), (hq p (by simp)).1]
   simp
 refine ⟨ps.map (·.1), ?_, fun z hz => ?_⟩
 ·refine ⟨A, cap, by rw [List.length_map], by rw [List.length_map]; exact hl, by rw [List.length_map]; exact hm, ?_⟩
  rw [List.length_map]
  first
  | (rw [← e]; exact hr)
  | (show Reads w w.heap.size 1 A ps.length ((ps.map (·.1)).map (fun z => Value.int .i64 z)); rw [← e]; exact hr)
 ·obtain ⟨p, hp, rfl⟩ := List.mem_map.1 hz
  exact (hq p hp).2
theorem k3' : Tryz.prog.cellsOf 3 = 1 := by kernel_rfl
end
end Go.Proofs.YtmaknddlgppinaaGreatDoor
namespace Go.Proofs.YtmaknddlgppinaaGreatDoor
open Go.ChangeShapes Go.WideShapes Go.ChangeAt Go.RowKit
theorem gBlt : Tryz.prog.globalNamed "crucible/hier.builtins" = some 0 := by kernel_rfl
theorem tBlt : (Tryz.prog.globals[0]?).map (·.type) = some 149 := by kernel_rfl
abbrev laidN : List (String × DataW Unit) := [("crucible/hier.builtins", Rows.laid_crucible_hier_builtins)]
theorem laid_blt : (Rows.laid_crucible_hier_builtins : DataW Unit) = .agg (builtP.map fun c => .agg [.lit (.string c.name), .lit (.string c.super)]) := by rfl
theorem door_met (os : Os) (args : Array Value) : laidMetH Tryz.prog laidN ((World.doorLaid Tryz.prog 400 os).forCall (fun _ _ => 0) ⟨#[], args, []⟩).memory :=
 laidMetH_of_parts3 (fuel := 8) (laidMet_of_run' 8 (by kernel_rfl) (by kernel_rfl)) (by kernel_rfl) (by kernel_rfl)
theorem c148 : Tryz.prog.cellsOf 148 = 2 := by kernel_rfl
theorem c9 : Tryz.prog.cellsOf 9 = 1 := by kernel_rfl
theorem blV_at (k : Nat) (c : PC) (h : builtP[k]? = some c) (hk : k < 14) : blV[k * 2]? = some (.string ⟨c.name.toArray⟩) ∧ blV[k * 2 + 1]? = some (.string ⟨c.super.toArray⟩) := by
 have gen : ∀ (l : List PC) (k : Nat) (c : PC), l[k]? = some c → (l.flatMap blC)[k * 2]? = some (.string ⟨c.name.toArray⟩) ∧ (l.flatMap blC)[k * 2 + 1]? = some (.string ⟨c.super.toArray⟩) := by
  intro l
  induction l with
  | nil => intro k c h; simp at h
  | cons x r ih =>
   intro k c h
   cases k with
   | zero => simp only [List.getElem?_cons_zero, Option.some.injEq] at h; subst h; exact ⟨rfl, rfl⟩
   | succ k =>
    simp only [List.getElem?_cons_succ] at h
    have := ih k c h
    rw [show (k + 1) * 2 = k * 2 + 2 by omega]
    exact this
 exact gen builtP k c h
theorem bytes_of {s : ByteArray} {l : List UInt8} (h : s.data.toList = l) : s = ⟨l.toArray⟩ := by
 subst h
 cases s
 rfl
theorem of_laid {W : World} (h : laidMetH Tryz.prog laidN W) : Blt W := by
 rw [MakeChecks.laidMetH_plain _ _ _ (by kernel_rfl)] at h
 obtain ⟨ps, ⟨g0, t0, cs0, f0, p0, q0, hg0, ht0, hv0, hd0, _, _⟩, _⟩ := h
 obtain rfl := Option.some.inj (gBlt.symm.trans hg0)
 obtain rfl := Option.some.inj (tBlt.symm.trans ht0)
 obtain ⟨xs, m1, rfl, hx1, hlen, hn3, hel⟩ := DataW.trod_array Tryz.underlying149 hd0
 simp only [Prod.mk.injEq] at hx1
 have hx := hx1.1
 rw [laid_blt] at hx
 simp only [DataW.agg.injEq] at hx
 have key : ∀ k, k < 14 → ∀ c, builtP[k]? = some c → cs0[k * 2]? = some (.string ⟨c.name.toArray⟩) ∧ cs0[k * 2 + 1]? = some (.string ⟨c.super.toArray⟩) := by
  intro k hk c hc
  have h1 := hel k hk
  rw [c148] at h1
  have hxk : xs[k]? = some (xs[k]'(by omega)) := List.getElem?_eq_getElem (by omega)
  rw [hxk] at h1
  obtain ⟨ys, m2, hy1, _, hl, hlx, hf⟩ := DataW.trod_struct Tryz.underlying148 h1
  have hly : ys.length = 2 := hlx
  obtain ⟨ya, yb, rfl⟩ : ∃ a b, ys = [a, b] := by
   match ys, hly with
   | [a, b], _ => exact ⟨a, b, rfl⟩
  have f0 := hf 0 _ rfl
  have f1 := hf 1 _ rfl
  obtain ⟨s0, g0, d0, _⟩ := DataW.trod_string (x := ya) Tryz.underlying9 f0
  obtain ⟨s1, g1, d1, _⟩ := DataW.trod_string (x := yb) Tryz.underlying9 f1
  rename_i hxe _ _
  have e3 : (xs.map (·.1))[k]? = some (.agg [.lit (.string s0.data.toList), .lit (.string s1.data.toList)]) := by
   rw [List.getElem?_map, hxk, Option.map_some, hxe]
   simp [d0, d1]
  rw [← hx, List.getElem?_map, hc] at e3
  simp only [Option.map_some, Option.some.injEq, DataW.agg.injEq, List.cons.injEq, DataW.lit.injEq, and_true] at e3
  obtain ⟨e3, e4⟩ := e3
  injection e3 with e3
  injection e4 with e4
  have h0 := bytes_of e3.symm
  have h1' := bytes_of e4.symm
  replace g0 : List.take (Tryz.prog.cellsOf 9) (List.drop 0 (List.take 2 (List.drop (k * 2) cs0.toList))) = [.string s0] := g0
  replace g1 : List.take (Tryz.prog.cellsOf 9) (List.drop 1 (List.take 2 (List.drop (k * 2) cs0.toList))) = [.string s1] := g1
  rw [c9] at g0 g1
  have a0 := congrArg (fun l => l[0]?) g0
  have a1 := congrArg (fun l => l[0]?) g1
  simp [List.getElem?_take, List.getElem?_drop] at a0 a1
  rw [← h0, ← h1']
  exact ⟨a0, a1⟩
 intro k v hv
 have hk : k < 28 := (List.getElem?_eq_some_iff.1 hv).1
 obtain ⟨c, hc⟩ : ∃ c, builtP[k / 2]? = some c := ⟨_, List.getElem?_eq_getElem (show k / 2 < builtP.length by have : builtP.length = 14 := rfl; omega)⟩
 have h1 := key (k / 2) (by omega) c hc
 have h2 := blV_at (k / 2) c hc (by omega)
 rw [World.var?_cell gBlt hv0 k]
 rcases Nat.mod_two_eq_zero_or_one k with h | h
 ·have e : k = k / 2 * 2 := by omega
  rw [← e] at h1 h2
  rw [h2.1] at hv
  rw [← hv]
  exact h1.1
 ·have e : k = k / 2 * 2 + 1 := by omega
  rw [← e] at h1 h2
  rw [h2.2] at hv
  rw [← hv]
  exact h1.2
end Go.Proofs.YtmaknddlgppinaaGreatDoor
