/-
  CUT and joined from the texts of this seat: Rj Rn Re
-/
import Derived.Test.YtmaknddlgppinaaGreatDoorY37
import Derived.Test.YtmaknddlgppinaaGreatDoorY39
import Derived.Test.YtmaknddlgppinaaGreatDoorY23
import Derived.Test.YtmaknddlgppinaaGreatDoorY35
import Derived.Test.YtmaknddlgppinaaGreatDoorY36
import Derived.Test.YtmaknddlgppinaaGreatDoorY29
import Derived.Test.YtmaknddlgppinaaGreatDoorY34
set_option linter.unusedVariables false
set_option linter.unusedSimpArgs false
namespace Go.Proofs.YtmaknddlgppinaaGreatDoor
open Go.RowKit
theorem refConst_raw {B : Nat} (f : Fl) (v : Value) (w : World) (hf : FileAt B w v f) (hB : B ≤ w.heap.size) (ht : ∀ i, (textP f.pool i).size ≤ 1000000) (c : Cn) (hc : c.text.size ≤ 1000000) (h0 : constE f.pool c = 0) (h1 : c.tag = 1 ∨ c.tag = 4) :
  Calls Tryz.prog 125 #[v, constV c] w fun e w' => e = .returned (.int .i64 0) ∧ Below w.heap.size w w' := by
 obtain ⟨t, text, n, a, b, d⟩ := c
 unfold constV
 simp only at hc h1 ⊢
 rcases h1 with rfl | rfl
 ·rw [← h0]
  exact refConst_1 f v w hf hB ht text hc n a b d
 ·rw [← h0]
  exact refConst_4 f v w hf hB ht text hc n a b d
set_option maxRecDepth 1000000 in
set_option maxHeartbeats 12800000 in
theorem refParts_raw {B : Nat} (f : Fl) (v : Value) (w : World) (hf : FileAt B w v f) (hB : B ≤ w.heap.size) (ht : ∀ i, (textP f.pool i).size ≤ 1000000) (hx : ∀ c ∈ f.pool, c.text.size ≤ 1000000)
    (hfd : f.fds.length = 0) (hmt : f.mts.length = 0) (hp : f.pool.length ≤ 2000) (hcs : ∀ c ∈ f.pool, constE f.pool c = 0 ∧ (c.tag = 1 ∨ c.tag = 4)) (hce : classE f = 0) :
    Calls Tryz.prog 115 #[v] w fun e w' => e = .returned (.int .i64 0) ∧ Below w.heap.size w w' := by
  obtain ⟨hm1, hm2, hm3, hm4⟩ := hf.max
  have HCO := Lib.hid (fun V W hW hWB c hc => refConst_raw (B := B) f V W hW hWB ht c (hx c hc) (hcs c hc).1 (hcs c hc).2)
  have HHE := Lib.hid (fun V W hW hWB => show Calls Tryz.prog 126 #[V] W _ from (hce ▸ refHead_any (B := B) f V W hW hWB : Calls Tryz.prog 126 #[V] W fun e w' => e = .returned (.int .i64 0) ∧ Below W.heap.size W w'))
  obtain ⟨Ap, cp, Ai, ci, Af, cf, Am, cm, rfl, hi⟩ := id hf
  have HI := Lib.hid hi
  have FL0 := Lib.hid (hf.alloc hB (.cells #[.slice Ap f.pool.length cp, .int .i64 f.fl, .int .i64 f.this, .int .i64 f.super, .slice Ai f.ifs.length ci, .slice Af f.fds.length cf, .slice Am f.mts.length cm] 94))
  have BE0 := Lib.hid ((Below.refl w.heap.size w).alloc (Nat.le_refl _) (.cells #[.slice Ap f.pool.length cp, .int .i64 f.fl, .int .i64 f.this, .int .i64 f.super, .slice Ai f.ifs.length ci, .slice Af f.fds.length cf, .slice Am f.mts.length cm] 94))
  have BF0 := Lib.hid (FBox.new Ap cp Ai ci Af cf Am cm f w)
  clear hi hf ht hx hcs hce
  have hl1' : (f.pool.length : Int) ≤ 2000 := by omega
  have hfd' : (f.fds.length : Int) ≤ 0 := by omega
  have hmt' : (f.mts.length : Int) ≤ 0 := by omega
  obtain ⟨nf, hnf⟩ : ∃ n, n = f.fds.length := ⟨_, rfl⟩
  obtain ⟨nm, hnm⟩ : ∃ n, n = f.mts.length := ⟨_, rfl⟩
  clear hnf hnm nf nm hfd hmt
  go_enter Tryz.func115, Tryz.ntmps115
  go_wp2
  go_loopg [3] f.pool.length (fun g iv wx => ∃ k : Nat, iv = .int .i64 k ∧ k + g = f.pool.length ∧ FileAt B wx (.agg #[.slice Ap f.pool.length cp, .int .i64 f.fl, .int .i64 f.this, .int .i64 f.super, .slice Ai f.ifs.length ci, .slice Af f.fds.length cf, .slice Am f.mts.length cm]) f ∧ FBox w.heap.size Ap cp Ai ci Af cf Am cm f wx ∧ Below w.heap.size w wx)
  case atStart => exact ⟨0, rfl, by omega, FL0.out, BF0.out, BE0.out⟩
  case round =>
    obtain ⟨k, rfl, hkg, hfl, hbf, hbe⟩ := hrel
    have FL1 := Lib.hid hfl
    have BF1 := Lib.hid hbf
    have BE1 := Lib.hid hbe
    have ltBF1 := hbf.lt
    clear hfl hbf hbe
    obtain ⟨c0, c1, c2, c3, c4, c5, c6⟩ := BF1.out.cells
    by_cases hlt : k < f.pool.length
    · have hgg : gk - 1 < gk := by omega
      obtain ⟨c, hc⟩ : ∃ c, f.pool[k]? = some c := ⟨_, List.getElem?_eq_getElem hlt⟩
      have HCM := Lib.hid (List.mem_of_getElem? hc)
      have hI1 := HI.out.keep (w' := wr) (fun p hp => BE1.out.cell (p := p) (by omega))
      obtain ⟨p0, o0, rfl, hbb, x0, x1, x2, x3, x4, x5⟩ := hI1.pool.at_ hc
      have hwk : IntKind.i64.wrap (k : Int) = k := IntWalk.i64_in _ (by omega)
      have hlk : (k : Int) < f.pool.length := by omega
      have hpw : p0 < w.heap.size + 1 := by omega
      clear hc hI1
      go_wp2
      have FLd := FL1.out.drew
      have BEd := BE1.out
      have BFd := BF1.out
      have hsz : w.heap.size + 1 ≤ wr.heap.size := by omega
      go_region_held3 (fun w' => w'.cell? ⟨w.heap.size, 0, none⟩ = some (.slice (some ⟨p0, o0, none⟩) f.pool.length cp) ∧ w'.cell? ⟨w.heap.size, 1, none⟩ = some (.int .i64 f.fl) ∧ w'.cell? ⟨w.heap.size, 2, none⟩ = some (.int .i64 f.this) ∧ w'.cell? ⟨w.heap.size, 3, none⟩ = some (.int .i64 f.super) ∧ w'.cell? ⟨w.heap.size, 4, none⟩ = some (.slice Ai f.ifs.length ci) ∧ w'.cell? ⟨w.heap.size, 5, none⟩ = some (.slice Af f.fds.length cf) ∧ w'.cell? ⟨w.heap.size, 6, none⟩ = some (.slice Am f.mts.length cm) ∧ w'.cell? ⟨p0, o0 + k * 6, none⟩ = some (.int .i64 c.tag) ∧ w'.cell? ⟨p0, o0 + k * 6 + 1, none⟩ = some (.string c.text) ∧ w'.cell? ⟨p0, o0 + k * 6 + 2, none⟩ = some (.int .i64 c.n) ∧ w'.cell? ⟨p0, o0 + k * 6 + 3, none⟩ = some (.int .i64 c.a) ∧ w'.cell? ⟨p0, o0 + k * 6 + 4, none⟩ = some (.int .i64 c.b) ∧ w'.cell? ⟨p0, o0 + k * 6 + 5, none⟩ = some (.int .i64 c.c) ∧ FileAt B w' (.agg #[.slice (some ⟨p0, o0, none⟩) f.pool.length cp, .int .i64 f.fl, .int .i64 f.this, .int .i64 f.super, .slice Ai f.ifs.length ci, .slice Af f.fds.length cf, .slice Am f.mts.length cm]) f ∧ w.heap.size + 1 ≤ w'.heap.size ∧ Below w.heap.size w w' ∧ FBox w.heap.size (some ⟨p0, o0, none⟩) cp Ai ci Af cf Am cm f w')
        (first
          | exact ⟨c0, c1, c2, c3, c4, c5, c6, x0, x1, x2, x3, x4, x5, FLd, hsz, BEd.drew, BFd.drew⟩
          | (go_split_ands
             refine ⟨?_, ?_, ?_, ?_, ?_, ?_, ?_, ?_, ?_, ?_, ?_, ?_, ?_, ?_, ?_, ?_, ?_⟩
             all_goals first
               | assumption
               | exact keepc hb (B := w.heap.size + 1) (by omega) (by omega) (by assumption)
               | exact FileAt.below (by assumption) hb (by omega)
               | exact Nat.le_trans (by assumption) hb.size
               | exact Below.link (by assumption) hb
               | exact FBox.below (by assumption) hb (by omega)))
        ((go_at_call 125; refine (HCO.out _ _ (by first | assumption | (go_split_ands; assumption)) (by go_split_ands; omega) c HCM.out).mono ?_; rintro e wi ⟨rfl, hb⟩))
      clear FLd BEd BFd hsz c0 c1 c2 c3 c4 c5 c6 x0 x1 x2 x3 x4 x5
      go_split_ands
      have BEI := Lib.hid (show Below w.heap.size w wi by assumption)
      have BFI := Lib.hid (show FBox w.heap.size (some ⟨p0, o0, none⟩) cp Ai ci Af cf Am cm f wi by assumption)
      have FLI := Lib.hid (show FileAt B wi (.agg #[.slice (some ⟨p0, o0, none⟩) f.pool.length cp, .int .i64 f.fl, .int .i64 f.this, .int .i64 f.super, .slice Ai f.ifs.length ci, .slice Af f.fds.length cf, .slice Am f.mts.length cm]) f by assumption)
      go_wp2
      go_roundg (gk - 1)
      case measure => exact hgg
      case rel => exact ⟨k + 1, by go_num, by omega, FLI.out, BFI.out, BEI.out⟩
    · go_wp2_with fail
      refine (HHE.out _ _ FL1.out (by omega)).mono ?_
      rintro e w3 ⟨rfl, hb⟩
      have BE3 := Lib.hid (Below.link BE1.out hb)
      have FL3 := Lib.hid (FL1.out.below hb (Nat.le_trans hB BE1.out.size))
      have BF3 := Lib.hid (BF1.out.below hb BF1.out.lt)
      have ltBF3 := BF3.out.lt
      clear hb
      clear c0 c1 c2 c3 c4 c5 c6
      obtain ⟨c0, c1, c2, c3, c4, c5, c6⟩ := BF3.out.cells
      go_wp2
      go_loopg [6] 0 (fun g iv wx => iv = .int .i64 0 ∧ wx = w3)
      case atStart => exact ⟨rfl, rfl⟩
      case round =>
        obtain ⟨rfl, rfl⟩ := hrel
        go_wp2
        go_loopg [7] 0 (fun g iv wx => iv = .int .i64 0 ∧ wx = wr)
        case atStart => exact ⟨rfl, rfl⟩
        case round =>
          obtain ⟨rfl, rfl⟩ := hrel
          go_wp2
          go_ret
          exact ⟨rfl, BE3.out⟩
set_option maxRecDepth 1000000 in
set_option maxHeartbeats 12800000 in
theorem refRight_raw {B : Nat} (f : Fl) (v : Value) (w : World) (hf : FileAt B w v f) (hB : B ≤ w.heap.size) (ht : ∀ i, (textP f.pool i).size ≤ 1000000) (hx : ∀ c ∈ f.pool, c.text.size ≤ 1000000)
  (hfd : f.fds.length = 0) (hmt : f.mts.length = 0) (hp : f.pool.length ≤ 2000) (hcs : ∀ c ∈ f.pool, constE f.pool c = 0 ∧ (c.tag = 1 ∨ c.tag = 4)) (hce : classE f = 0) (hpe : partsE f = 0) (hl : (fileN f).length ≤ 65536) :
  Calls Tryz.prog 96 #[v] w fun e w' => e = .returned (.int .i64 0) ∧ Below w.heap.size w w' := by
 have HP := Lib.hid (fun V W hW hWB => refParts_raw (B := B) f V W hW hWB ht hx hfd hmt hp hcs hce)
 have HA1 := Lib.hid (fun V W hW hWB => refBytes_raw (B := B) f V W hW hWB hx (partsE_fine hpe) (fun c hc => (hcs c hc).2) hfd hmt)
 obtain ⟨Ap, cp, Ai, ci, Af, cf, Am, cm, rfl, hi⟩ := id hf
 have BE0 := Lib.hid ((Below.refl w.heap.size w).alloc (Nat.le_refl _) (.cells #[.slice Ap f.pool.length cp, .int .i64 f.fl, .int .i64 f.this, .int .i64 f.super, .slice Ai f.ifs.length ci, .slice Af f.fds.length cf, .slice Am f.mts.length cm] 94))
 have BF0 := Lib.hid (FBox.new Ap cp Ai ci Af cf Am cm f w)
 have FL0 := Lib.hid (hf.alloc hB (.cells #[.slice Ap f.pool.length cp, .int .i64 f.fl, .int .i64 f.this, .int .i64 f.super, .slice Ai f.ifs.length ci, .slice Af f.fds.length cf, .slice Am f.mts.length cm] 94))
 clear hi hf ht hx hcs hce hpe
 clear hfd hmt
 have hsz : (mkB (fileN f)).size = (fileN f).length := by rw [size_L, L_mkB]
 have hl' : ((mkB (fileN f)).size : Int) ≤ 65536 := by omega
 have HSZ := Lib.hid hsz
 clear hsz hl
 generalize mkB (fileN f) = S at *
 go_enter Tryz.func96, Tryz.ntmps96
 go_wp2_with fail
 refine (HP.out _ _ FL0.out (by simp; omega)).mono ?_
 rintro e w1 ⟨rfl, hb⟩
 have BE1 := Lib.hid (Below.link BE0.out hb)
 have FL1 := Lib.hid (FL0.out.below hb (Nat.le_trans hB BE0.out.size))
 have BF1 := Lib.hid (BF0.out.below hb BF0.out.lt)
 have ltBF1 := BF1.out.lt
 clear hb
 obtain ⟨c0, c1, c2, c3, c4, c5, c6⟩ := BF1.out.cells
 go_wp2_with fail
 refine (HA1.out _ _ FL1.out (Nat.le_trans hB BE1.out.size)).mono ?_
 rintro e w2 ⟨rfl, hb⟩
 have BE2 := Lib.hid (Below.link BE1.out hb)
 clear hb
 go_wp2
 go_ret
 exact ⟨rfl, BE2.out⟩
theorem results19 : Tryz.f19.results = #[ResultVar.tmp 2, ResultVar.tmp 3, ResultVar.tmp 4] := by kernel_rfl
set_option maxRecDepth 1000000 in
set_option maxHeartbeats 6400000 in
theorem RNew_any (w : World) {Bf : Nat} (fs : List Fl) (v : Value) (hf : FsRow Bf w v fs) (hBf : Bf ≤ w.heap.size) (hok : ∀ f ∈ fs, encF f = 0 → (∀ i, (classP f.pool i).size ≤ 1000000) ∧ f.ifs.length ≤ 1000)
  (hRR : ∀ f ∈ fs, ∀ (Bw : Nat) (V : Value) (W : World), FileAt Bw W V f → Bw ≤ W.heap.size → Calls Tryz.prog 96 #[V] W fun e w' => e = .returned (.int .i64 (encF f)) ∧ Below W.heap.size W w') :
  Calls Tryz.prog 19 #[v] w fun e w' => ROpenAns builtP fs w' e ∧ Below w.heap.size w w' := by
 have BT := Lib.hid (RBuilt_any w 14 (Nat.le_refl _))
 have OP := Lib.hid (fun W (hb : Below w.heap.size w W) p A cap (h : RT W.heap.size p A cap builtP 14 W) => ROpen_any h good_built fs v (hf.keep fun q hq => hb.cell (Nat.lt_of_lt_of_le hq hBf)) (Nat.le_trans hBf hb.size) hok hRR (by decide))
 obtain ⟨Af, capf, rfl, _, _⟩ := hf.form
 clear hf hok hRR
 go_enter Tryz.func19, Tryz.ntmps19
 go_wp2_with fail
 refine BT.out.mono ?_
 rintro e w1 ⟨v1, rfl, hown, hb1⟩
 obtain ⟨a1, c1, rfl⟩ := hown.form
 have O1 := Lib.hid hown
 have B1 := Lib.hid hb1
 obtain ⟨nb, hnb⟩ : ∃ n, n = builtP.length := ⟨_, rfl⟩
 have HT := Lib.hid (show RT (w1.alloc (.cells #[.slice a1 nb c1] 105)).heap.size w1.heap.size a1 c1 builtP 14 (w1.alloc (.cells #[.slice a1 nb c1] 105)) by
  rw [hnb]
  exact OT.table (base := w.heap.size) ⟨hheap_new _ _, O1.out.below B1.out.size ((Below.refl _ _).alloc (Nat.le_refl _) _), B1.out.size, by have := B1.out.size; simp; omega⟩ (by decide))
 rw [← hnb]
 clear hown hb1 hnb
 go_wp2_with fail
 refine (OP.out _ (by first | exact B1.out.alloc B1.out.size _) _ _ _ HT.out).mono ?_
 rintro e w2 ⟨ha, hb2⟩
 have B2 := Lib.hid ((B1.out.alloc B1.out.size (.cells #[.slice a1 nb c1] 105)).trans (hb2.mono (by have := B1.out.size; simp; omega)))
 clear hb2
 rcases ha with ⟨x, a, ho, rfl⟩ | ⟨ds, q, A, cap, ho, rfl, ht⟩
 ·have HO := Lib.hid ho
  clear ho
  go_wp2
  refine bodyPost_ret (v := .tuple #[.pointer none, .int .i64 ((x : Nat) : Int), .int .i64 ((a : Nat) : Int)]) (by simp [results, results19, go_sem]) rfl ?_
  exact ⟨.inl ⟨x, a, HO.out, rfl⟩, B2.out⟩
 ·have HO := Lib.hid ho
  have HT2 := Lib.hid ht
  clear ho ht
  go_wp2
  refine bodyPost_ret (v := .tuple #[.pointer (some ⟨q, 0, none⟩), .int .i64 0, .int .i64 0]) (by simp [results, results19, go_sem]) rfl ?_
  exact ⟨.inr ⟨ds, q, A, cap, HO.out, rfl, HT2.out⟩, B2.out⟩
theorem textP_few {p : List Cn} (h : ∀ c ∈ p, c.text.size ≤ 1000000) (i : Int) : (textP p i).size ≤ 1000000 := by
 unfold textP
 split
 ·rename_i c hc
  split
  ·exact h c (List.mem_of_getElem? hc)
  ·decide
 ·decide
theorem raw_few (r : Rw) : ∀ c ∈ (fileR r).pool, c.text.size ≤ 100 ∧ (c.tag = 1 ∨ c.tag = 4) := fun c hc => by
 rcases raw_mem hc with ⟨s, rfl, hs⟩ | ⟨q, s, rfl, _, _⟩
 ·have : OkN s := by rcases hs with rfl | rfl | hs; exact nmR_ok _; exact nmR_ok _; exact ifnR_ok r s hs
  exact ⟨this.size, .inl rfl⟩
 ·exact ⟨by show (0 : Nat) ≤ 100; omega, .inr rfl⟩
/-- The files of raw parts, by the document. -/
theorem raw_RR (rs : List Rw) : ∀ f ∈ filesR rs, ∀ (Bw : Nat) (V : Value) (W : World), FileAt Bw W V f → Bw ≤ W.heap.size → Calls Tryz.prog 96 #[V] W fun e w' => e = .returned (.int .i64 (encF f)) ∧ Below W.heap.size W w' := fun f h Bw V W hf hB => by
 obtain ⟨r, _, rfl⟩ := List.mem_map.1 h
 have h4 : (ifnR r).length ≤ 16 := by unfold ifnR; rw [List.length_map, List.length_take]; omega
 have hp := raw_parts (fl := flR r.fl) (nmR_ok r.nm) (nmR_ok r.sp) (ifnR_ok r) h4 (flR_in _)
 have hb := raw_bytes (fl := flR r.fl) (nmR_ok r.nm) (nmR_ok r.sp) (ifnR_ok r) h4
 have he : encF (fileR r) = 0 := raw_right (nmR_ok r.nm) (nmR_ok r.sp) (ifnR_ok r) h4 (flR_in _)
 rw [he]
 have htag := raw_few r
 have hx : ∀ c ∈ (fileR r).pool, c.text.size ≤ 1000000 := fun c hc => by have := (htag c hc).1; omega
 refine refRight_raw (fileR r) V W hf hB (fun i => ?_) hx rfl rfl ?_ (fun c hc => ⟨raw_const (nmR_ok r.nm) (nmR_ok r.sp) (ifnR_ok r) hc, (htag c hc).2⟩) ?_ hp hb
 ·exact textP_few hx i
 ·show (rawP (flR r.fl) (nmR r.nm) (nmR r.sp) (ifnR r)).pool.length ≤ 2000
  rw [raw_len]
  omega
 ·have := hp
  unfold partsE at this
  split at this
  ·split at this
   ·rename_i h1
    exact h1
   ·rename_i h1
    exact absurd this h1
  ·rename_i h1
   exact absurd this h1
theorem raw_ok (rs : List Rw) : ∀ f ∈ filesR rs, encF f = 0 → (∀ i, (classP f.pool i).size ≤ 1000000) ∧ f.ifs.length ≤ 1000 := fun f h _ => by
 obtain ⟨r, _, rfl⟩ := List.mem_map.1 h
 have hx : ∀ c ∈ (fileR r).pool, c.text.size ≤ 1000000 := fun c hc => by have := (raw_few r c hc).1; omega
 refine ⟨fun i => ?_, ?_⟩
 ·unfold classP
  split
  ·exact textP_few hx _
  ·decide
 ·have : (fileR r).ifs.length = (ifnR r).length := by show ((List.range (ifnR r).length).map _).length = _; simp
  have := ifnR_len r
  omega
/-- The box of what Find answers, without its interfaces. -/
def NBoxAt (cs : List PC) (nm : List UInt8) (q : Nat) (b : Bool) (w : World) : Prop :=
 (b = false ∧ ix cs nm = none ∧ ∃ x0 x1 x2 x3 x4 x5 x6, w.heap[q]? = some (.cells #[x0, x1, x2, x3, x4, x5, x6] 119 (0, 0))) ∨
 (b = true ∧ ∃ i c, ∃ k : KC, ∃ x2 x3 x4 x5 x6, ix cs nm = some i ∧ cs[i]? = some c ∧ Nmd k c ∧ w.heap[q]? = some (.cells #[.string k.name, .string k.super, x2, x3, x4, x5, x6] 119 (0, 0)))
theorem NBoxAt.cells {cs : List PC} {nm : List UInt8} {q : Nat} {b : Bool} {w : World} (h : NBoxAt cs nm q b w) : ∃ x0 x1 x2 x3 x4 x5 x6, w.heap[q]? = some (.cells #[x0, x1, x2, x3, x4, x5, x6] 119 (0, 0)) := by
 rcases h with ⟨_, _, h⟩ | ⟨_, i, c, k, x2, x3, x4, x5, x6, _, _, _, h⟩
 ·exact h
 ·exact ⟨_, _, _, _, _, _, _, h⟩
theorem NBoxAt.link {cs : List PC} {nm : List UInt8} {q : Nat} {b : Bool} {w w' : World} (h : NBoxAt cs nm q b w) (hk : ∀ x, w.heap[q]? = some x → w'.heap[q]? = some x) : NBoxAt cs nm q b w' := by
 rcases h with ⟨h1, h2, x0, x1, x2, x3, x4, x5, x6, h⟩ | ⟨h1, i, c, k, x2, x3, x4, x5, x6, h2, h3, h4, h⟩
 ·exact .inl ⟨h1, h2, _, _, _, _, _, _, _, hk _ h⟩
 ·exact .inr ⟨h1, i, c, k, x2, x3, x4, x5, x6, h2, h3, h4, hk _ h⟩
section
variable {B p ow cap : Nat} {A : Option Addr} {cs : List PC} {w : World}
set_option maxRecDepth 1000000 in
set_option maxHeartbeats 12800000 in
theorem RChain_any (h : RT B p A cap cs ow w) (G : Good cs) (s : ByteArray) (hs : s.size ≤ 1000000) :
  Calls Tryz.prog 74 #[.pointer (some ⟨p, 0, none⟩), .string s] w fun e w' => ∃ v l, e = .returned v ∧ (∀ i, ix cs s.data.toList = some i → Ch cs i l) ∧ (ix cs s.data.toList = none → l = []) ∧ OwnS w' w.heap.size v (nms cs l) ∧ Below w.heap.size w w' := by
 obtain ⟨l, hl1, hl2⟩ : ∃ l, (∀ i, ix cs s.data.toList = some i → Ch cs i l) ∧ (ix cs s.data.toList = none → l = []) := by
  cases hx : ix cs s.data.toList with
  | none => exact ⟨[], fun i hi => (by cases hi), fun _ => rfl⟩
  | some i =>
   obtain ⟨l, hl⟩ := ch_some G.acyc _ i (Nat.le_refl _)
   exact ⟨l, fun j hj => (by cases hj; exact hl), fun hn => (by cases hn)⟩
 have hstart : ix cs s.data.toList = l[0]? := by
  cases hx : ix cs s.data.toList with
  | none => rw [hl2 hx]; rfl
  | some i => rw [(hl1 i hx).head]
 have hlt : ∀ x ∈ l, x < cs.length := fun x hx => by
  cases hi : ix cs s.data.toList with
  | none => rw [hl2 hi] at hx; cases hx
  | some i => exact (hl1 i hi).lt (ix_lt hi) hx
 have hnext : ∀ (k x : Nat) (c : PC), l[k]? = some x → cs[x]? = some c → ix cs c.super = l[k + 1]? := fun k x c hx hc => by
  have e : sup cs x = ix cs c.super := by unfold sup; rw [hc]
  rw [← e]
  cases hi : ix cs s.data.toList with
  | none => rw [hl2 hi] at hx; cases hx
  | some i =>
   cases hsx : sup cs x with
   | none =>
    have := (hl1 i hi).step_none hx hsx
    rw [List.getElem?_eq_none (by omega)]
   | some y => rw [(hl1 i hi).step_some hx hsx]
 have hll : l.length ≤ 1000 := by
  cases hi : ix cs s.data.toList with
  | none => rw [hl2 hi]; simp
  | some i =>
   have hnd : l.Nodup := (hl1 i hi).nodup G
   have := nodup_le hnd (m := List.range cs.length) (fun x hx => List.mem_range.2 (hlt x hx))
   have h2 := h.few
   simp at this
   omega
 have FX := Lib.hid (fun W (hb : Below w.heap.size w W) x hx => RFind_any (h.link hb) x hx)
 have HN := Lib.hid hnext
 have HS := Lib.hid hstart
 have HL := Lib.hid (And.intro hl1 hl2)
 obtain ⟨i9, hi9, hz0, hz1, hz2⟩ := info9
 obtain ⟨sn, hsn⟩ : ∃ x, x = s.data.toList := ⟨_, rfl⟩
 rw [← hsn] at HS HL
 rw [← hsn]
 have HSN := Lib.hid hsn
 obtain ⟨LL, hLL⟩ : ∃ x, x = l.length := ⟨_, rfl⟩
 have HLL := Lib.hid hLL
 rw [← hLL] at hll
 clear h hstart hlt hnext hl1 hl2 hsn hLL
 go_enter Tryz.func74, Tryz.ntmps74
 go_upto_region 2 with fail
 go_cut [6, 7] (fun v6 v7 wx => ∃ (q : Nat) (b : Bool), v6 = .pointer (some ⟨q, 0, none⟩) ∧ v7 = .bool b ∧ NBoxAt cs sn q b wx ∧ w.heap.size ≤ q ∧ Below w.heap.size w wx)
 case first =>
  go_wp2_with fail
  refine (FX.out _ (Below.refl _ _) s hs).mono ?_
  rintro e w1 ⟨hfa, hb⟩
  rw [← HSN.out] at hfa
  have B1 := Lib.hid hb
  rcases hfa with ⟨h1, rfl⟩ | ⟨i, d, k, ifn, h1, h2, h3, h4, rfl⟩
  ·have H1 := Lib.hid h1
   clear h1 hb
   unfold zeroCls
   go_wp2
   go_meet
   case rel => exact ⟨_, false, rfl, rfl, .inl ⟨rfl, H1.out, _, _, _, _, _, _, _, hheap_new _ _⟩, B1.out.size, B1.out.alloc B1.out.size _⟩
  ·obtain ⟨a4, c4, rfl, _⟩ := h4.length
   have H1 := Lib.hid h1
   have H2 := Lib.hid h2
   have H3 := Lib.hid h3
   clear h1 h2 h3 h4 hb
   go_wp2
   go_meet
   case rel => exact ⟨_, true, rfl, rfl, .inr ⟨rfl, i, d, k, _, _, _, _, _, H1.out, H2.out, H3.out, hheap_new _ _⟩, B1.out.size, B1.out.alloc B1.out.size _⟩
 obtain ⟨q, b, rfl, rfl, hbox, hq, hb⟩ := hcut
 obtain ⟨V, hV⟩ : ∃ x, x = wc := ⟨_, rfl⟩
 subst hV
 have BX := Lib.hid hbox
 have BV := Lib.hid hb
 clear hbox hb
 go_wp2
 go_loopg [5, 7] LL (fun g v5 v7 wx => ∃ (j : Nat) (nm : List UInt8) (b : Bool), v7 = .bool b ∧ NBoxAt cs nm q b wx ∧ ix cs nm = l[j]? ∧ j + g = LL ∧ OwnS wx w.heap.size v5 (nms cs (l.take j)) ∧ Below w.heap.size w wx)
 case atStart => exact ⟨0, sn, b, rfl, BX.out, HS.out, by omega, OwnS.nil _ _, BV.out⟩
 case round =>
  obtain ⟨j, nm, b, rfl, hbox, hix, hjg, hown, hbx⟩ := hrel
  have HB := Lib.hid hbx
  have hbs := hbx.size
  have HIX := Lib.hid hix
  rcases hbox with ⟨rfl, h1, x0, x1, x2, x3, x4, x5, x6, hqc⟩ | ⟨rfl, i, c, k, x2, x3, x4, x5, x6, h1, h2, h3, hqc⟩
  ·have HO := Lib.hid hown
   have H1 := Lib.hid h1
   obtain ⟨a0, c0, rfl⟩ := hown.form
   clear hown hbx hix h1 hqc
   go_wp2
   go_ret
   have hj : LL ≤ j := by
    have := HIX.out
    rw [H1.out] at this
    have := List.getElem?_eq_none_iff.1 this.symm
    rw [HLL.out]
    exact this
   have e2 : nms cs (l.take j) = nms cs l := by rw [List.take_of_length_le (by rw [← HLL.out]; exact hj)]
   refine ⟨_, l, rfl, HL.out.1, HL.out.2, ?_, HB.out⟩
   show OwnS wr w.heap.size (.slice a0 (nms cs (l.take j)).length c0) (nms cs l)
   rw [← e2]
   exact HO.out
  ·have hlj : l[j]? = some i := by rw [← hix, h1]
   have hjl : j < LL := by rw [HLL.out]; exact (List.getElem?_eq_some_iff.1 hlj).1
   have HLJ := Lib.hid hlj
   have H2 := Lib.hid h2
   have H3 := Lib.hid h3
   obtain ⟨ss, hss, hsz, hso⟩ := hown
   have hsl : ss.length = j := by
    have := congrArg List.length hss
    rw [List.length_map] at this
    rw [this]
    unfold nms
    rw [List.length_map, List.length_take]
    have := HLL.out
    omega
   rw [hsl] at hso
   have HSS := Lib.hid (And.intro hss (And.intro hsz hsl))
   have HO := Lib.hid hso
   obtain ⟨a0, c0, rfl⟩ := hown_form hso
   have HNE := Lib.hid (hown_ne hso hqc (by decide))
   have q0 := kcells_of hqc 0
   have q1 := kcells_of hqc 1
   simp only [List.getElem?_toArray, List.getElem?_cons_succ, List.getElem?_cons_zero] at q0 q1
   have HQC := Lib.hid hqc
   have hql := lt_of_block hqc
   obtain ⟨nmb, hnmb⟩ : ∃ x, x = k.name := ⟨_, rfl⟩
   obtain ⟨spb, hspb⟩ : ∃ x, x = k.super := ⟨_, rfl⟩
   have HNM := Lib.hid (show nmb.data.toList = c.name by rw [hnmb]; exact h3.nm)
   have hnz : nmb.size ≤ 1000000 := by rw [hnmb]; exact h3.nsz
   have HSP := Lib.hid (show spb.data.toList = c.super by rw [hspb]; exact h3.sp)
   have hspz : spb.size ≤ 1000000 := by rw [hspb]; exact h3.ssz
   rw [← hnmb, ← hspb] at HQC
   rw [← hnmb] at q0
   rw [← hspb] at q1
   clear hbx hix h1 h2 h3 hqc hss hsz hsl hso hlj hnmb hspb BX
   go_upto_region 4 with fail
   go_cut [5] (fun v5 wx => wx.ownsRow w.heap.size 9 1 v5 (j + 1) (scells ss ++ [.string nmb]) ∧ wx.heap[q]? = some (.cells #[.string nmb, .string spb, x2, x3, x4, x5, x6] 119 (0, 0)) ∧ Below w.heap.size w wx)
   case first =>
    go_wp2_with (at_builtin; refine hwpList_append_own2 rfl (.tmp 15) (.tmp 18) 45 rfl w.heap.size 9 i9 (.string ⟨#[]⟩) 1 16 und45c hi9 hz0 hz1 hz2 rfl (by decide) (.slice a0 j c0) j _ rfl (World.ownsRow.alloc HO.out _) ⟨_, 0, none⟩ 1 1 [.string nmb] rfl rfl (knew_at _ [.string nmb] 9 _ (by simp)) (fun u hu => by simp at hu; subst hu; rfl) (by unfold maxLen; omega) (by omega) (by simp; omega) ?_; intro v3 w3 own3 hg3 hm3; obtain ⟨a3, c3, rfl⟩ := hown_form own3; have OW3 := Lib.hid own3; have HG3 := Lib.hid hg3; clear own3 hg3 hm3)
    go_meet
    case rel => exact ⟨OW3.out, grown_block HG3.out (hheap_alloc_lt HQC.out) HNE.out, Below.grown (HB.out.alloc hbs _) HG3.out (by simp; omega) (fun q hq => hown_block_ge HO.out q hq)⟩
   obtain ⟨hso, hqc, hbx⟩ := hcut
   obtain ⟨V1, hV1⟩ : ∃ x, x = wc := ⟨_, rfl⟩
   subst hV1
   obtain ⟨a1, c1, rfl⟩ := hown_form hso
   have SO1 := Lib.hid hso
   have Q1 := Lib.hid hqc
   have B1 := Lib.hid hbx
   have q0' := kcells_of hqc 0
   have q1' := kcells_of hqc 1
   simp only [List.getElem?_toArray, List.getElem?_cons_succ, List.getElem?_cons_zero] at q0' q1'
   clear hso hqc hbx q0 q1 HO HQC
   go_wp2_with fail
   refine (FX.out _ B1.out spb hspz).mono ?_
   rintro e w2 ⟨hfa, hb2⟩
   rw [HSP.out] at hfa
   have B2 := Lib.hid (B1.out.trans (hb2.mono B1.out.size))
   have Q2 := Lib.hid ((hb2.block q (lt_of_block Q1.out)).trans Q1.out)
   have SO2 := Lib.hid (hown_below SO1.out hb2)
   have NE2 := Lib.hid (hown_ne SO2.out Q2.out (by decide))
   have KF2 := kfree_of Q2.out
   have kq := kcells_of Q2.out
   have k0 := kq 0
   have k1 := kq 1
   have k2 := kq 2
   have k3 := kq 3
   have k4 := kq 4
   have k5 := kq 5
   have k6 := kq 6
   simp only [List.getElem?_toArray, List.getElem?_cons_succ, List.getElem?_cons_zero] at k0 k1 k2 k3 k4 k5 k6
   have NX := Lib.hid (HN.out j i c HLJ.out H2.out)
   have step : ∀ (y0 y1 y2 y3 y4 y5 y6 : Value) (b' : Bool) (WF : World), WF = ((((((w2.setCell ⟨q, 0, none⟩ y0).setCell ⟨q, 1, none⟩ y1).setCell ⟨q, 2, none⟩ y2).setCell ⟨q, 3, none⟩ y3).setCell ⟨q, 4, none⟩ y4).setCell ⟨q, 5, none⟩ y5).setCell ⟨q, 6, none⟩ y6 → (∀ W : World, W.heap[q]? = some (.cells #[y0, y1, y2, y3, y4, y5, y6] 119 (0, 0)) → NBoxAt cs c.super q b' W) →
     NBoxAt cs c.super q b' WF ∧ OwnS WF w.heap.size (.slice a1 (j + 1) c1) (nms cs (l.take (j + 1))) ∧ Below w.heap.size w WF := by
    intro y0 y1 y2 y3 y4 y5 y6 b' WF hWF hN
    have z := fset7 Q2.out y0 y1 y2 y3 y4 y5 y6
    have hbe := fbelow7 (b := q) B2.out hq y0 y1 y2 y3 y4 y5 y6
    have hbut : HBut q q w2 WF := by
     rw [hWF]
     exact (((((((HBut.refl _ _ w2).set _ (.inl rfl)).set _ (.inl rfl)).set _ (.inl rfl)).set _ (.inl rfl)).set _ (.inl rfl)).set _ (.inl rfl)).set _ (.inl rfl)
    rw [← hWF] at z hbe
    have so := hown_but SO2.out hbut NE2.out NE2.out
    refine ⟨hN _ z, ?_, hbe⟩
    obtain ⟨hss, hsz, hsl⟩ := HSS.out
    rw [nms_snoc HLJ.out H2.out]
    rw [← hsl] at so
    have := OwnS.snoc (wr := w2) (v := .bool true) hss hsz HNM.out hnz so
    rw [hsl] at this
    exact this
   have ST := Lib.hid step
   clear step hb2 kq q0' q1'
   rcases hfa with ⟨h1, rfl⟩ | ⟨i', d, k', ifn, h1, h2, h3, h4, rfl⟩
   ·have H1' := Lib.hid h1
    clear h1
    unfold zeroCls
    go_wp2
    go_roundg (gk - 1)
    case measure => omega
    case rel =>
     obtain ⟨r1, r2, r3⟩ := ST.out _ _ _ _ _ _ _ false _ rfl (fun W hW => .inl ⟨rfl, H1'.out, _, _, _, _, _, _, _, hW⟩)
     exact ⟨j + 1, c.super, false, rfl, r1, NX.out, by omega, r2, r3⟩
   ·obtain ⟨a4, c4, rfl, _⟩ := h4.length
    have H1' := Lib.hid h1
    have H2' := Lib.hid h2
    have H3' := Lib.hid h3
    clear h1 h2 h3 h4
    go_wp2
    go_roundg (gk - 1)
    case measure => omega
    case rel =>
     obtain ⟨r1, r2, r3⟩ := ST.out _ _ _ _ _ _ _ true _ rfl (fun W hW => .inr ⟨rfl, i', d, k', _, _, _, _, _, H1'.out, H2'.out, H3'.out, hW⟩)
     exact ⟨j + 1, c.super, true, rfl, r1, NX.out, by omega, r2, r3⟩
end
/-- The first of one list that stands in another; Object if none does. -/
def ComIs (a b : List (List UInt8)) (r : List UInt8) : Prop :=
 (∃ k : Nat, a[k]? = some r ∧ r ∈ b ∧ ∀ (n : Nat) (y : List UInt8), n < k → a[n]? = some y → y ∉ b) ∨ ((∀ x ∈ a, x ∉ b) ∧ r = objB)
set_option maxRecDepth 1000000 in
set_option maxHeartbeats 6400000 in
theorem Rcommon_any (B : Nat) (a b : List (List UInt8)) (va vb : Value) (w : World) (ha : SRow B w va a) (hb : SRow B w vb b) (hB : B ≤ w.heap.size) :
  Calls Tryz.prog 73 #[va, vb] w fun e w' => (∃ s : ByteArray, e = .returned (.string s) ∧ ComIs a b s.data.toList ∧ s.size ≤ 1000000) ∧ RDrawn w w' := by
 obtain ⟨Aa, ca, rfl, hca, hma⟩ := ha.length
 obtain ⟨Ab, cb, rfl, hcb, hmb⟩ := hb.length
 unfold maxLen at hma hmb
 have HA := Lib.hid ha
 have HB := Lib.hid hb
 obtain ⟨n, hn⟩ : ∃ n, a.length = n := ⟨_, rfl⟩
 obtain ⟨m, hm⟩ : ∃ m, b.length = m := ⟨_, rfl⟩
 rw [hn] at hca hma HA ⊢
 rw [hm] at hcb hmb HB ⊢
 have HNN := Lib.hid hn
 have HMM := Lib.hid hm
 clear ha hb hn hm
 go_enter Tryz.func73, Tryz.ntmps73
 go_wp2
 go_loopg [5] n (fun g v5 wx => ∃ k : Nat, v5 = .int .i64 k ∧ k + g = n ∧ (∀ (j : Nat) (y : List UInt8), j < k → a[j]? = some y → y ∉ b) ∧ RDrawn w wx)
 case atStart => exact ⟨0, rfl, by omega, fun _ _ h => by omega, RDrawn.refl _⟩
 case round =>
  obtain ⟨k, rfl, hkg, hpre, hd⟩ := hrel
  have HD := Lib.hid hd
  have HP := Lib.hid hpre
  clear hd hpre
  obtain ⟨W0, hW0⟩ : ∃ x, x = wr := ⟨_, rfl⟩
  subst hW0
  obtain ⟨G0, hG0⟩ : ∃ x, x = gk := ⟨_, rfl⟩
  subst hG0
  by_cases hlt : k < n
  ·obtain ⟨x, hx⟩ : ∃ x, a[k]? = some x := ⟨_, List.getElem?_eq_getElem (by rw [HNN.out]; exact hlt)⟩
   have HX := Lib.hid hx
   clear hx
   go_wp2
   go_loopg [6] m (fun g v6 wx => ∃ j : Nat, v6 = .int .i64 j ∧ j + g = m ∧ (∀ (i : Nat) (y : List UInt8), i < j → b[i]? = some y → x ≠ y) ∧ RDrawn w wx)
   case atStart => exact ⟨0, rfl, by omega, fun _ _ h => by omega, HD.out⟩
   case round =>
    obtain ⟨j, rfl, hjg, hpre, hd⟩ := hrel
    have HD1 := Lib.hid hd
    have HP1 := Lib.hid hpre
    have hsz := hd.below.size
    clear hd hpre
    by_cases hlj : j < m
    ·obtain ⟨y, hy⟩ : ∃ y, b[j]? = some y := ⟨_, List.getElem?_eq_getElem (by rw [HMM.out]; exact hlj)⟩
     obtain ⟨ba, oa, sx, rfl, hba, cx, hsx, hzx⟩ := (HD1.out.srow HA.out).at_ HX.out
     obtain ⟨bb, ob, sy, rfl, hbb, cy, hsy, hzy⟩ := (HD1.out.srow HB.out).at_ hy
     have HY := Lib.hid hy
     have hbaw : ba < wr.heap.size := by omega
     have hbbw : bb < wr.heap.size := by omega
     have hst : sx.toList = sy.toList ↔ x = y := by rw [← hsx, ← hsy, Lib.toList_data, Lib.toList_data]
     have HSX := Lib.hid hsx
     clear hy hsx hsy
     by_cases he : x = y
     ·have e1 : (sx.toList == sy.toList) = true := by simpa using hst.2 he
      have HE := Lib.hid he
      clear he hst
      go_wp2
      go_quiet (fail)
      go_wp2
      go_ret
      refine ⟨⟨sx, rfl, .inl ⟨k, by rw [HSX.out]; exact HX.out, by rw [HSX.out, HE.out]; exact List.mem_of_getElem? HY.out, HP.out⟩, hzx⟩, HD1.out.step _⟩
     ·have e1 : (sx.toList == sy.toList) = false := by simpa using fun h => he (hst.1 h)
      have HE := Lib.hid he
      clear he hst
      go_wp2
      go_quiet (fail)
      go_wp2
      go_roundg (gk - 1)
      case measure => omega
      case rel =>
       refine ⟨j + 1, by go_num, by omega, fun i z hi hz => ?_, HD1.out.step _⟩
       by_cases hij : i = j
       ·subst hij
        rw [HY.out] at hz
        cases hz
        exact HE.out
       ·exact HP1.out i z (by omega) hz
    ·have hjm : j = m := by omega
     subst hjm
     go_wp2
     go_roundg (G0 - 1)
     case measure => omega
     case rel =>
      refine ⟨k + 1, by go_num, by omega, fun i z hi hz hzb => ?_, HD1.out⟩
      by_cases hik : i = k
      ·subst hik
       rw [HX.out] at hz
       cases hz
       obtain ⟨i', hi'⟩ := List.getElem?_of_mem hzb
       exact HP1.out i' x (by have := (List.getElem?_eq_some_iff.1 hi').1; rw [HMM.out] at this; exact this) hi' rfl
      ·exact HP.out i z (by omega) hz hzb
  ·have hkn : k = n := by omega
   subst hkn
   go_wp2
   go_ret
   refine ⟨⟨⟨#[79, 98, 106, 101, 99, 116]⟩, rfl, .inr ⟨fun z hz => ?_, rfl⟩, by decide⟩, HD.out⟩
   obtain ⟨i, hi⟩ := List.getElem?_of_mem hz
   exact HP.out i z (by have := (List.getElem?_eq_some_iff.1 hi).1; rw [HNN.out] at this; exact this) hi
end Go.Proofs.YtmaknddlgppinaaGreatDoor
