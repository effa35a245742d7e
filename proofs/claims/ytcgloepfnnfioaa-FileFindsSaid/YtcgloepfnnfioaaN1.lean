/-
  WALK of the law FileNames.
-/
import Derived.Test.YtcgloepfnnfioaaM2
import Derived.Test.YtcgloepfnnfioaaS2
set_option linter.unusedVariables false
set_option linter.unusedSimpArgs false
namespace Go.Proofs.Ytcgloepfnnfioaa
open Go.RowKit

theorem memsE_twice {parts : List (Mb → Int)} {same : Mb → Mb → Bool} {ms : List Mb} (h : memsE parts same ms = 0) {k : Nat} {m : Mb} (hm : ms[k]? = some m) : (ms.take k).any (fun d => same d m) = false := by
  unfold memsE at h
  split at h
  · cases h
  · have hk : k < ms.length := (List.getElem?_eq_some_iff.1 hm).1
    have h1 := firstErr_zero h k (by simpa using hk)
    unfold memE at h1
    rw [hm] at h1
    simp only at h1
    split at h1
    · split at h1
      · cases h1
      · rename_i h3
        simpa using h3
    · rename_i h2
      exact absurd h1 h2
theorem isM_same (p : List Cn) (m d : Mb) : isM p (textP p m.nm) (textP p m.ds) d = sameM p d m := rfl
theorem find_self {f : Fl} (h : FineF f) {k : Nat} {m : Mb} (hm : f.mts[k]? = some m) {r : Int} (hr : FindR (isM f.pool (textP f.pool m.nm) (textP f.pool m.ds)) f.mts r) : r = k := by
  have h1 : (f.mts.take k).any (isM f.pool (textP f.pool m.nm) (textP f.pool m.ds)) = false := memsE_twice (show memsE _ _ _ = 0 from h.mts) hm
  have h2 : isM f.pool (textP f.pool m.nm) (textP f.pool m.ds) m = true := by unfold isM; simp
  rcases hr with ⟨j, x, hx, hg, ha, rfl⟩ | ⟨ha, _⟩
  · rcases Nat.lt_trichotomy j k with hj | rfl | hj
    · rw [any_later hx hj hg] at h1; cases h1
    · rfl
    · rw [any_later hm hj h2] at ha; cases ha
  · rw [List.any_eq_false] at ha
    exact absurd h2 (by simpa using ha m (List.mem_of_getElem? hm))
theorem tagged_meth {f : Fl} (h : FineF f) {m : Mb} (hm : m ∈ f.mts) : tagged f.pool m.nm 1 = true ∧ tagged f.pool m.ds 1 = true := by
  have h1 := (memsE_zero (show memsE _ _ _ = 0 from h.mts)).2 m hm (hdE f.pool f.fl 2 sigE) (by simp)
  unfold hdE at h1
  split at h1
  · cases h1
  · split at h1
    · assumption
    · cases h1
theorem encF_fine {f : Fl} (h : encF f = 0) : FineF f := by
  unfold encF at h
  split at h
  · rename_i h1; exact partsE_fine h1
  · rename_i h1; exact absurd h h1
set_option maxRecDepth 1000000 in
set_option maxHeartbeats 6400000 in
theorem names_walk {B : Nat} (f : Fl) (v : Value) (w : World) (hf : FileAt B w v f) (hB : B ≤ w.heap.size) (hs : FitsF f) (a b : ByteArray) :
    Calls Try.prog 9 #[v, .string a, .string b] w fun e w' => e = .returned (.bool true) ∧ Below w.heap.size w w' := by
  obtain ⟨hm1, hm2, hm3, hm4⟩ := hf.max
  have HS := Lib.hid (fun V W hW hWB => Small_any (B := B) f V W hW hWB hs)
  have HR := Lib.hid (fun V W hW hWB => Right_file (B := B) f V W hW hWB hs.pool)
  have HN := Lib.hid (fun V W hW hWB i => Name_file (B := B) f V W hW hWB i)
  have HFI := Lib.hid (fun V W hW hWB x y => Find_any (B := B) f V W hW hWB x y)
  have HFN := Lib.hid (fun h => encF_fine (f := f) h)
  obtain ⟨Ap, cp, Ai, ci, Af, cf, Am, cm, rfl, hi⟩ := id hf
  have HI := Lib.hid hi
  have BE0 := Lib.hid ((Below.refl w.heap.size w).alloc (Nat.le_refl _) (.cells #[.slice Ap f.pool.length cp, .int .i64 f.fl, .int .i64 f.this, .int .i64 f.super, .slice Ai f.ifs.length ci, .slice Af f.fds.length cf, .slice Am f.mts.length cm] 26))
  have BF0 := Lib.hid (FBox.new Ap cp Ai ci Af cf Am cm f w)
  have FL0 := Lib.hid (hf.alloc hB (.cells #[.slice Ap f.pool.length cp, .int .i64 f.fl, .int .i64 f.this, .int .i64 f.super, .slice Ai f.ifs.length ci, .slice Af f.fds.length cf, .slice Am f.mts.length cm] 26))
  clear hi hf hs
  cases hsm : smallB f with
  | false =>
    rw [hsm] at HS
    clear hsm
    go_enter Try.func9, Try.ntmps9
    go_wp2_with fail
    refine (shown_any _).mono ?_
    rintro e w1 ⟨rfl, hb⟩
    have BE1 := Lib.hid (Below.link BE0.out hb)
    have BF1 := Lib.hid (BF0.out.below hb (BF0.out.lt))
    have FL1 := Lib.hid (FL0.out.below hb (Nat.le_trans hB BE0.out.size))
    have lt1 := BF1.out.lt
    clear hb
    obtain ⟨c0, c1, c2, c3, c4, c5, c6⟩ := BF1.out.cells
    go_wp2_with fail
    refine (HS.out _ _ FL1.out (by omega)).mono ?_
    rintro e w2 ⟨rfl, hb⟩
    have BE2 := Lib.hid (Below.link BE1.out hb)
    have BF2 := Lib.hid (BF1.out.below hb (BF1.out.lt))
    have FL2 := Lib.hid (FL1.out.below hb (Nat.le_trans hB BE1.out.size))
    have lt2 := BF2.out.lt
    clear hb
    clear c0 c1 c2 c3 c4 c5 c6
    obtain ⟨c0, c1, c2, c3, c4, c5, c6⟩ := BF2.out.cells
    go_wp2
    go_ret
    exact ⟨rfl, BE2.out⟩
  | true =>
    rw [hsm] at HS
    clear hsm
    by_cases he : encF f = 0
    · have HFINE := Lib.hid (HFN.out he)
      rw [he] at HR
      clear he
      go_enter Try.func9, Try.ntmps9
      go_wp2_with fail
      refine (shown_any _).mono ?_
      rintro e w1 ⟨rfl, hb⟩
      have BE1 := Lib.hid (Below.link BE0.out hb)
      have BF1 := Lib.hid (BF0.out.below hb (BF0.out.lt))
      have FL1 := Lib.hid (FL0.out.below hb (Nat.le_trans hB BE0.out.size))
      have lt1 := BF1.out.lt
      clear hb
      obtain ⟨c0, c1, c2, c3, c4, c5, c6⟩ := BF1.out.cells
      go_wp2_with fail
      refine (HS.out _ _ FL1.out (by omega)).mono ?_
      rintro e w2 ⟨rfl, hb⟩
      have BE2 := Lib.hid (Below.link BE1.out hb)
      have BF2 := Lib.hid (BF1.out.below hb (BF1.out.lt))
      have FL2 := Lib.hid (FL1.out.below hb (Nat.le_trans hB BE1.out.size))
      have lt2 := BF2.out.lt
      clear hb
      clear c0 c1 c2 c3 c4 c5 c6
      obtain ⟨c0, c1, c2, c3, c4, c5, c6⟩ := BF2.out.cells
      go_wp2_with fail
      refine (HR.out _ _ FL2.out (by omega)).mono ?_
      rintro e w3 ⟨rfl, hb⟩
      have BE3 := Lib.hid (Below.link BE2.out hb)
      have BF3 := Lib.hid (BF2.out.below hb (BF2.out.lt))
      have FL3 := Lib.hid (FL2.out.below hb (Nat.le_trans hB BE2.out.size))
      have lt3 := BF3.out.lt
      clear hb
      clear c0 c1 c2 c3 c4 c5 c6
      obtain ⟨c0, c1, c2, c3, c4, c5, c6⟩ := BF3.out.cells
      go_wp2
      go_loopg [9] f.mts.length (fun g iv wx => ∃ k : Nat, iv = .int .i64 k ∧ k + g = f.mts.length ∧ FBox w.heap.size Ap cp Ai ci Af cf Am cm f wx ∧ Below w.heap.size w wx)
      case atStart => exact ⟨0, rfl, by omega, BF3.out, BE3.out⟩
      case round =>
        obtain ⟨k, rfl, hkg, hbf, hbe⟩ := hrel
        have BF4 := Lib.hid hbf
        have BE4 := Lib.hid hbe
        have lt4 := hbf.lt
        clear c0 c1 c2 c3 c4 c5 c6
        obtain ⟨c0, c1, c2, c3, c4, c5, c6⟩ := hbf.cells
        have hII := HI.out.keep (w' := wr) (fun p hp => BE4.out.cell (p := p) (by omega))
        clear hbf hbe
        by_cases hk : k < f.mts.length
        · have hgg : gk - 1 < gk := by omega
          obtain ⟨x, hx⟩ : ∃ x, f.mts[k]? = some x := ⟨_, List.getElem?_eq_getElem hk⟩
          obtain ⟨p0, o0, A2, c2', rfl, hbb, hrow, x0, xk1, xk2, x3, x4, x5, x6⟩ := hII.mts.at_ hx
          have FL4 := Lib.hid hII.at_
          have HSELF := Lib.hid (fun r hr => find_self HFINE.out hx (r := r) hr)
          obtain ⟨tg1, tg2⟩ := tagged_meth HFINE.out (List.mem_of_getElem? hx)
          have T1 := Lib.hid tg1
          have T2 := Lib.hid tg2
          have HN1 := Lib.hid (fun V W hW hWB => (show Calls Try.prog 16 #[V, .int .i64 x.nm] W fun e w' => e = .returned (.tuple #[.string (textP f.pool x.nm), .bool true]) ∧ Below W.heap.size W w' from by have := HN.out V W hW hWB x.nm; rwa [T1.out] at this))
          have HN2 := Lib.hid (fun V W hW hWB => (show Calls Try.prog 16 #[V, .int .i64 x.ds] W fun e w' => e = .returned (.tuple #[.string (textP f.pool x.ds), .bool true]) ∧ Below W.heap.size W w' from by have := HN.out V W hW hWB x.ds; rwa [T2.out] at this))
          generalize textP f.pool x.nm = t1 at *
          generalize textP f.pool x.ds = t2 at *
          have hwk : IntKind.i64.wrap (k : Int) = k := IntWalk.i64_in _ (by omega)
          clear hx hrow hII x0 x3 x4 x5 x6 tg1 tg2
          go_wp2
          have FLd := FL4.out.drew
          have BEd := BE4.out
          have BFd := BF4.out
          have hsz : w.heap.size + 1 ≤ wr.heap.size := by omega
          go_region_held3 (fun w' => w'.cell? ⟨w.heap.size, 0, none⟩ = some (.slice Ap f.pool.length cp) ∧ w'.cell? ⟨w.heap.size, 1, none⟩ = some (.int .i64 f.fl) ∧ w'.cell? ⟨w.heap.size, 2, none⟩ = some (.int .i64 f.this) ∧ w'.cell? ⟨w.heap.size, 3, none⟩ = some (.int .i64 f.super) ∧ w'.cell? ⟨w.heap.size, 4, none⟩ = some (.slice Ai f.ifs.length ci) ∧ w'.cell? ⟨w.heap.size, 5, none⟩ = some (.slice Af f.fds.length cf) ∧ w'.cell? ⟨w.heap.size, 6, none⟩ = some (.slice (some ⟨p0, o0, none⟩) f.mts.length cm) ∧ w'.cell? ⟨p0, o0 + k * 7 + 1, none⟩ = some (.int .i64 x.nm) ∧ w'.cell? ⟨p0, o0 + k * 7 + 2, none⟩ = some (.int .i64 x.ds) ∧ FileAt B w' (.agg #[.slice Ap f.pool.length cp, .int .i64 f.fl, .int .i64 f.this, .int .i64 f.super, .slice Ai f.ifs.length ci, .slice Af f.fds.length cf, .slice (some ⟨p0, o0, none⟩) f.mts.length cm]) f ∧ w.heap.size + 1 ≤ w'.heap.size ∧ Below w.heap.size w w' ∧ FBox w.heap.size Ap cp Ai ci Af cf (some ⟨p0, o0, none⟩) cm f w')
            (first
              | exact ⟨c0, c1, c2, c3, c4, c5, c6, xk1, xk2, FLd, hsz, BEd.drew, BFd.drew⟩
              | (go_split_ands
                 refine ⟨?_, ?_, ?_, ?_, ?_, ?_, ?_, ?_, ?_, ?_, ?_, ?_, ?_⟩
                 all_goals first
                   | assumption
                   | exact keepc hb (B := w.heap.size + 1) (by omega) (by omega) (by assumption)
                   | exact FileAt.below (by assumption) hb (by omega)
                   | exact Nat.le_trans (by assumption) hb.size
                   | exact Below.link (by assumption) hb
                   | exact FBox.below (by assumption) hb (by omega)))
            ((go_at_call 16; refine (HN1.out _ _ (by first | assumption | (go_split_ands; assumption)) (by go_split_ands; omega)).mono ?_; rintro e wi ⟨rfl, hb⟩))
          clear FLd BEd BFd hsz c0 c1 c2 c3 c4 c5 c6 xk1 xk2
          go_split_ands
          go_wp2
          go_region_held3 (fun w' => w'.cell? ⟨w.heap.size, 0, none⟩ = some (.slice Ap f.pool.length cp) ∧ w'.cell? ⟨w.heap.size, 1, none⟩ = some (.int .i64 f.fl) ∧ w'.cell? ⟨w.heap.size, 2, none⟩ = some (.int .i64 f.this) ∧ w'.cell? ⟨w.heap.size, 3, none⟩ = some (.int .i64 f.super) ∧ w'.cell? ⟨w.heap.size, 4, none⟩ = some (.slice Ai f.ifs.length ci) ∧ w'.cell? ⟨w.heap.size, 5, none⟩ = some (.slice Af f.fds.length cf) ∧ w'.cell? ⟨w.heap.size, 6, none⟩ = some (.slice (some ⟨p0, o0, none⟩) f.mts.length cm) ∧ w'.cell? ⟨p0, o0 + k * 7 + 1, none⟩ = some (.int .i64 x.nm) ∧ w'.cell? ⟨p0, o0 + k * 7 + 2, none⟩ = some (.int .i64 x.ds) ∧ FileAt B w' (.agg #[.slice Ap f.pool.length cp, .int .i64 f.fl, .int .i64 f.this, .int .i64 f.super, .slice Ai f.ifs.length ci, .slice Af f.fds.length cf, .slice (some ⟨p0, o0, none⟩) f.mts.length cm]) f ∧ w.heap.size + 1 ≤ w'.heap.size ∧ Below w.heap.size w w' ∧ FBox w.heap.size Ap cp Ai ci Af cf (some ⟨p0, o0, none⟩) cm f w')
            (first
              | exact ⟨by assumption, by assumption, by assumption, by assumption, by assumption, by assumption, by assumption, by assumption, by assumption, FileAt.drew (by assumption), by assumption, Below.drew (by assumption), FBox.drew (by assumption)⟩
              | (go_split_ands
                 refine ⟨?_, ?_, ?_, ?_, ?_, ?_, ?_, ?_, ?_, ?_, ?_, ?_, ?_⟩
                 all_goals first
                   | assumption
                   | exact keepc hb (B := w.heap.size + 1) (by omega) (by omega) (by assumption)
                   | exact FileAt.below (by assumption) hb (by omega)
                   | exact Nat.le_trans (by assumption) hb.size
                   | exact Below.link (by assumption) hb
                   | exact FBox.below (by assumption) hb (by omega)))
            ((go_at_call 16; refine (HN2.out _ _ (by first | assumption | (go_split_ands; assumption)) (by go_split_ands; omega)).mono ?_; rintro e wi ⟨rfl, hb⟩))
          go_split_ands
          go_wp2_with fail
          refine (HFI.out _ _ (by assumption) (by omega) t1 t2).mono ?_
          rintro e w9 ⟨r, rfl, hr, hb⟩
          obtain rfl := HSELF.out r hr
          have BE9 := Lib.hid (Below.link (show Below w.heap.size w _ by assumption) hb)
          have BF9 := Lib.hid (FBox.below (show FBox w.heap.size Ap cp Ai ci Af cf (some ⟨p0, o0, none⟩) cm f _ by assumption) hb (by omega))
          clear hb hr
          go_wp2
          go_roundg (gk - 1)
          case measure => exact hgg
          case rel => exact ⟨k + 1, by go_num, by omega, BF9.out, BE9.out⟩
        · have FL4 := Lib.hid hII.at_
          clear hII
          go_wp2_with fail
          refine (HFI.out _ _ FL4.out (by omega) a b).mono ?_
          rintro e w9 ⟨r, rfl, hr, hb⟩
          have BE9 := Lib.hid (Below.link BE4.out hb)
          have BF9 := Lib.hid (BF4.out.below hb lt4)
          have lt9 := BF9.out.lt
          have hII := HI.out.keep (w' := w9) (fun p hp => BE9.out.cell (p := p) (by omega))
          clear hb c0 c1 c2 c3 c4 c5 c6
          obtain ⟨c0, c1, c2, c3, c4, c5, c6⟩ := BF9.out.cells
          rcases hr with ⟨j, m, hm, hg, _, rfl⟩ | ⟨_, rfl⟩
          · have hj : j < f.mts.length := (List.getElem?_eq_some_iff.1 hm).1
            obtain ⟨p0, o0, A2, c2', rfl, hbb, hrow, x0, xk1, xk2, x3, x4, x5, x6⟩ := hII.mts.at_ hm
            have FL9 := Lib.hid hII.at_
            unfold isM at hg
            rw [Bool.and_eq_true, decide_eq_true_eq, decide_eq_true_eq] at hg
            obtain ⟨hg1, hg2⟩ := hg
            have HN1 := Lib.hid (fun V W hW hWB => (show Calls Try.prog 16 #[V, .int .i64 m.nm] W fun e w' => e = .returned (.tuple #[.string a, .bool (tagged f.pool m.nm 1)]) ∧ Below W.heap.size W w' from by have := HN.out V W hW hWB m.nm; rwa [hg1] at this))
            have HN2 := Lib.hid (fun V W hW hWB => (show Calls Try.prog 16 #[V, .int .i64 m.ds] W fun e w' => e = .returned (.tuple #[.string b, .bool (tagged f.pool m.ds 1)]) ∧ Below W.heap.size W w' from by have := HN.out V W hW hWB m.ds; rwa [hg2] at this))
            have hwk : IntKind.i64.wrap (j : Int) = j := IntWalk.i64_in _ (by omega)
            clear hm hrow hII x0 x3 x4 x5 x6 hg1 hg2
            go_wp2
            have FLd := FL9.out.drew
            have BEd := BE9.out
            have BFd := BF9.out
            have hsz : w.heap.size + 1 ≤ w9.heap.size := by omega
            go_region_held3 (fun w' => w'.cell? ⟨w.heap.size, 0, none⟩ = some (.slice Ap f.pool.length cp) ∧ w'.cell? ⟨w.heap.size, 1, none⟩ = some (.int .i64 f.fl) ∧ w'.cell? ⟨w.heap.size, 2, none⟩ = some (.int .i64 f.this) ∧ w'.cell? ⟨w.heap.size, 3, none⟩ = some (.int .i64 f.super) ∧ w'.cell? ⟨w.heap.size, 4, none⟩ = some (.slice Ai f.ifs.length ci) ∧ w'.cell? ⟨w.heap.size, 5, none⟩ = some (.slice Af f.fds.length cf) ∧ w'.cell? ⟨w.heap.size, 6, none⟩ = some (.slice (some ⟨p0, o0, none⟩) f.mts.length cm) ∧ w'.cell? ⟨p0, o0 + j * 7 + 1, none⟩ = some (.int .i64 m.nm) ∧ w'.cell? ⟨p0, o0 + j * 7 + 2, none⟩ = some (.int .i64 m.ds) ∧ FileAt B w' (.agg #[.slice Ap f.pool.length cp, .int .i64 f.fl, .int .i64 f.this, .int .i64 f.super, .slice Ai f.ifs.length ci, .slice Af f.fds.length cf, .slice (some ⟨p0, o0, none⟩) f.mts.length cm]) f ∧ w.heap.size + 1 ≤ w'.heap.size ∧ Below w.heap.size w w' ∧ FBox w.heap.size Ap cp Ai ci Af cf (some ⟨p0, o0, none⟩) cm f w')
              (first
                | exact ⟨c0, c1, c2, c3, c4, c5, c6, xk1, xk2, FLd, hsz, BEd.drew, BFd.drew⟩
                | (go_split_ands
                   refine ⟨?_, ?_, ?_, ?_, ?_, ?_, ?_, ?_, ?_, ?_, ?_, ?_, ?_⟩
                   all_goals first
                     | assumption
                     | exact keepc hb (B := w.heap.size + 1) (by omega) (by omega) (by assumption)
                     | exact FileAt.below (by assumption) hb (by omega)
                     | exact Nat.le_trans (by assumption) hb.size
                     | exact Below.link (by assumption) hb
                     | exact FBox.below (by assumption) hb (by omega)))
              ((go_at_call 16; refine (HN1.out _ _ (by first | assumption | (go_split_ands; assumption)) (by go_split_ands; omega)).mono ?_; rintro e wi ⟨rfl, hb⟩))
            clear FLd BEd BFd hsz c0 c1 c2 c3 c4 c5 c6 xk1 xk2
            go_split_ands
            go_wp2
            go_region_held3 (fun w' => w'.cell? ⟨w.heap.size, 0, none⟩ = some (.slice Ap f.pool.length cp) ∧ w'.cell? ⟨w.heap.size, 1, none⟩ = some (.int .i64 f.fl) ∧ w'.cell? ⟨w.heap.size, 2, none⟩ = some (.int .i64 f.this) ∧ w'.cell? ⟨w.heap.size, 3, none⟩ = some (.int .i64 f.super) ∧ w'.cell? ⟨w.heap.size, 4, none⟩ = some (.slice Ai f.ifs.length ci) ∧ w'.cell? ⟨w.heap.size, 5, none⟩ = some (.slice Af f.fds.length cf) ∧ w'.cell? ⟨w.heap.size, 6, none⟩ = some (.slice (some ⟨p0, o0, none⟩) f.mts.length cm) ∧ w'.cell? ⟨p0, o0 + j * 7 + 1, none⟩ = some (.int .i64 m.nm) ∧ w'.cell? ⟨p0, o0 + j * 7 + 2, none⟩ = some (.int .i64 m.ds) ∧ FileAt B w' (.agg #[.slice Ap f.pool.length cp, .int .i64 f.fl, .int .i64 f.this, .int .i64 f.super, .slice Ai f.ifs.length ci, .slice Af f.fds.length cf, .slice (some ⟨p0, o0, none⟩) f.mts.length cm]) f ∧ w.heap.size + 1 ≤ w'.heap.size ∧ Below w.heap.size w w' ∧ FBox w.heap.size Ap cp Ai ci Af cf (some ⟨p0, o0, none⟩) cm f w')
              (first
                | exact ⟨by assumption, by assumption, by assumption, by assumption, by assumption, by assumption, by assumption, by assumption, by assumption, FileAt.drew (by assumption), by assumption, Below.drew (by assumption), FBox.drew (by assumption)⟩
                | (go_split_ands
                   refine ⟨?_, ?_, ?_, ?_, ?_, ?_, ?_, ?_, ?_, ?_, ?_, ?_, ?_⟩
                   all_goals first
                     | assumption
                     | exact keepc hb (B := w.heap.size + 1) (by omega) (by omega) (by assumption)
                     | exact FileAt.below (by assumption) hb (by omega)
                     | exact Nat.le_trans (by assumption) hb.size
                     | exact Below.link (by assumption) hb
                     | exact FBox.below (by assumption) hb (by omega)))
              ((go_at_call 16; refine (HN2.out _ _ (by first | assumption | (go_split_ands; assumption)) (by go_split_ands; omega)).mono ?_; rintro e wi ⟨rfl, hb⟩))
            go_split_ands
            have BEZ := Lib.hid (show Below w.heap.size w _ by assumption)
            go_wp2
            go_ret
            exact ⟨rfl, BEZ.out⟩
          · clear hII
            go_wp2
            go_ret
            exact ⟨rfl, BE9.out⟩
    · have hne := ne_beq he
      go_enter Try.func9, Try.ntmps9
      go_wp2_with fail
      refine (shown_any _).mono ?_
      rintro e w1 ⟨rfl, hb⟩
      have BE1 := Lib.hid (Below.link BE0.out hb)
      have BF1 := Lib.hid (BF0.out.below hb (BF0.out.lt))
      have FL1 := Lib.hid (FL0.out.below hb (Nat.le_trans hB BE0.out.size))
      have lt1 := BF1.out.lt
      clear hb
      obtain ⟨c0, c1, c2, c3, c4, c5, c6⟩ := BF1.out.cells
      go_wp2_with fail
      refine (HS.out _ _ FL1.out (by omega)).mono ?_
      rintro e w2 ⟨rfl, hb⟩
      have BE2 := Lib.hid (Below.link BE1.out hb)
      have BF2 := Lib.hid (BF1.out.below hb (BF1.out.lt))
      have FL2 := Lib.hid (FL1.out.below hb (Nat.le_trans hB BE1.out.size))
      have lt2 := BF2.out.lt
      clear hb
      clear c0 c1 c2 c3 c4 c5 c6
      obtain ⟨c0, c1, c2, c3, c4, c5, c6⟩ := BF2.out.cells
      go_wp2_with fail
      refine (HR.out _ _ FL2.out (by omega)).mono ?_
      rintro e w3 ⟨rfl, hb⟩
      have BE3 := Lib.hid (Below.link BE2.out hb)
      have BF3 := Lib.hid (BF2.out.below hb (BF2.out.lt))
      have FL3 := Lib.hid (FL2.out.below hb (Nat.le_trans hB BE2.out.size))
      have lt3 := BF3.out.lt
      clear hb
      clear c0 c1 c2 c3 c4 c5 c6
      obtain ⟨c0, c1, c2, c3, c4, c5, c6⟩ := BF3.out.cells
      go_wp2
      go_ret
      exact ⟨rfl, BE3.out⟩
end Go.Proofs.Ytcgloepfnnfioaa
