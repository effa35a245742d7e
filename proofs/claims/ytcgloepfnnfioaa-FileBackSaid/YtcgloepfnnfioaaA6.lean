/-
  WALKS of a whole file as bytes; of Encode and of Right.
-/
import Derived.Test.YtcgloepfnnfioaaA4
import Derived.Test.YtcgloepfnnfioaaA5
set_option linter.unusedVariables false
set_option linter.unusedSimpArgs false
namespace Go.Proofs.Ytcgloepfnnfioaa
open Go.RowKit

theorem firstErr_zero {α : Type} {g : α → Int} : ∀ {l : List α}, firstErr g l = 0 → ∀ x ∈ l, g x = 0
  | [], _, x, hx => by simp at hx
  | y :: r, h, x, hx => by
    simp only [firstErr] at h
    split at h
    · rename_i h0
      rcases List.mem_cons.1 hx with rfl | hx
      · exact h0
      · exact firstErr_zero h x hx
    · rename_i h0
      exact absurd h h0
theorem memsE_zero {parts : List (Mb → Int)} {same : Mb → Mb → Bool} {ms : List Mb} (h : memsE parts same ms = 0) : ms.length ≤ 200 ∧ ∀ m ∈ ms, ∀ g ∈ parts, g m = 0 := by
  unfold memsE at h
  split at h
  · cases h
  · rename_i hl
    refine ⟨by omega, fun m hm => ?_⟩
    obtain ⟨k, hk, rfl⟩ := List.getElem_of_mem hm
    have h1 := firstErr_zero h k (by simpa using hk)
    unfold memE at h1
    rw [List.getElem?_eq_getElem hk] at h1
    simp only at h1
    split at h1
    · rename_i h2
      exact firstErr_zero h2
    · rename_i h2
      exact absurd h1 h2
/-- What is known of a file whose parts have no error. -/
structure FineF (f : Fl) : Prop where
  pool : f.pool.length ≤ 2000
  pools : poolE f.pool = 0
  cls : classE f = 0
  fds : fieldsE f = 0
  mts : methodsE f = 0
  ifs : f.ifs.length ≤ 16
  nf : f.fds.length ≤ 200
  nm : f.mts.length ≤ 200
  code : ∀ m ∈ f.mts, m.code.size ≤ 4096 ∧ m.hs.length ≤ 32
theorem partsE_fine {f : Fl} (h : partsE f = 0) : FineF f := by
  unfold partsE at h
  split at h
  · rename_i h1
    split at h
    · rename_i h2
      split at h
      · rename_i h3
        have hm := memsE_zero (show memsE _ _ _ = 0 from h)
        have hf := memsE_zero (show memsE _ _ _ = 0 from h3)
        refine ⟨?_, h1, h2, h3, h, ?_, hf.1, hm.1, fun m hmm => ?_⟩
        · unfold poolE at h1
          split at h1
          · cases h1
          · omega
        · unfold classE at h2
          repeat' split at h2
          all_goals first
            | omega
            | cases h2
        · have hb := hm.2 m hmm (bodyE f.pool) (by simp)
          unfold bodyE at hb
          split at hb
          · unfold extraE bareB at hb
            split at hb
            · rename_i hx
              simp only [Bool.and_eq_true, decide_eq_true_eq] at hx
              omega
            · cases hb
          · repeat' split at hb
            all_goals first
              | omega
              | cases hb
      · rename_i h3
        exact absurd h h3
    · rename_i h2
      exact absurd h h2
  · rename_i h1
    exact absurd h h1
/-- The bytes of a file. -/
def fileN (f : Fl) : List UInt8 :=
  [67, 82, 85, 88] ++ (listN 2 constN f.pool ++ (beN 1 f.fl ++ (linksN [f.this, f.super] ++ (listN 1 (fun i => linksN [i]) f.ifs ++ (listN 1 headN f.fds ++ listN 1 methN f.mts)))))
set_option maxRecDepth 1000000 in
set_option maxHeartbeats 6400000 in
theorem appendFile_any {B : Nat} (f : Fl) (v : Value) (w : World) (hf : FileAt B w v f) (hB : B ≤ w.heap.size) (ht : Texts f.pool) (hp : FineF f) :
    Calls Try.prog 27 #[.slice none 0 0, v] w fun e w' => ∃ v', e = .returned v' ∧ OwnB w' w.heap.size v' (fileN f) ∧ Below w.heap.size w w' := by
  obtain ⟨i0, hi, hz0, hz1, hz2⟩ := info_parts Try.info5
  have HF := Lib.hid (show fileN f = [67, 82, 85, 88] ++ (listN 2 constN f.pool ++ (beN 1 f.fl ++ (linksN [f.this, f.super] ++ (listN 1 (fun i => linksN [i]) f.ifs ++ (listN 1 headN f.fds ++ listN 1 methN f.mts))))) from rfl)
  have hpl := hp.pool
  have hil := hp.ifs
  have hfl := hp.nf
  have hml := hp.nm
  have HCD := Lib.hid (show ∀ m ∈ f.mts, m.code.size ≤ 100000 ∧ m.hs.length ≤ 1000 from fun m hm => by have := hp.code m hm; omega)
  have l1 : (listN 2 constN f.pool).length ≤ 131100000 := by
    unfold listN
    have := flat_le constN 65545 f.pool (fun c _ => constN_le c)
    rw [List.length_append, beN_length]
    omega
  have l4 : (listN 1 (fun i => linksN [i]) f.ifs).length ≤ 100 := by
    unfold listN
    have := flat_le (fun i => linksN [i]) 2 f.ifs (fun i _ => by rw [linksN_length]; simp)
    rw [List.length_append, beN_length]
    omega
  have l5 : (listN 1 headN f.fds).length ≤ 2000 := by
    unfold listN
    have := flat_le headN 5 f.fds (fun m _ => by rw [headN_len]; omega)
    rw [List.length_append, beN_length]
    omega
  generalize fileN f = R at *
  obtain ⟨Ap, cp, Ai, ci, Af, cf, Am, cm, rfl, hfi⟩ := id hf
  have HI := Lib.hid hfi
  have HK0 := Lib.hid ((Kept.refl w.heap.size w).alloc (Nat.le_refl _) (.cells #[.slice Ap f.pool.length cp, .int .i64 f.fl, .int .i64 f.this, .int .i64 f.super, .slice Ai f.ifs.length ci, .slice Af f.fds.length cf, .slice Am f.mts.length cm] 26))
  have FB0 := Lib.hid (FBox.new Ap cp Ai ci Af cf Am cm f w)
  have HO0 := Lib.hid (OwnB.nil (w.alloc (.cells #[.slice Ap f.pool.length cp, .int .i64 f.fl, .int .i64 f.this, .int .i64 f.super, .slice Ai f.ifs.length ci, .slice Af f.fds.length cf, .slice Am f.mts.length cm] 26)) w.heap.size)
  clear hfi hf hp
  go_enter Try.func27, Try.ntmps27
  go_wp2_with (at_builtin; refine Lib.wpList_append_own_string (w.alloc (.cells #[.slice Ap f.pool.length cp, .int .i64 f.fl, .int .i64 f.this, .int .i64 f.super, .slice Ai f.ifs.length ci, .slice Af f.fds.length cf, .slice Am f.mts.length cm] 26)) rfl (.tmp 5) (.const (.string ⟨#[67, 82, 85, 88]⟩)) 49 9 rfl w.heap.size 5 i0 Try.underlying49 Try.underlying9 hi hz0 hz1 hz2 _ _ _ rfl HO0.out.app ⟨#[67, 82, 85, 88]⟩ rfl ?c1 ?c2 ?c3 ?_)
  case c1 => unfold maxLen; decide
  case c2 => decide
  case c3 => simp
  intro v1 w1 hown hg _
  have HO1 := Lib.hid (show OwnB w1 w.heap.size v1 [67, 82, 85, 88] from hown)
  have hk := HO0.out.grown0 (by simp) hg
  have HK1 := Lib.hid (HK0.out.trans hk)
  have FB1 := Lib.hid (show FBox w.heap.size Ap cp Ai ci Af cf Am cm f w1 from hk.other _ _ _ _ (by decide) FB0.out)
  have hs1 := HK1.out.size
  have lt1 := FB1.out.lt
  clear hown hg hk
  obtain ⟨c0, c1, c2, c3, c4, c5, c6⟩ := FB1.out.cells
  have N2 := Lib.hid (listConst_any (B := B) f.pool ht Ap cp v1 [67, 82, 85, 88] w.heap.size w1 (Row.keep HI.out.pool fun p hp => HK1.out.below.cell (p := p) (by omega)) hB (by omega) HO1.out (by simp) (by omega))
  go_wp2_with fail
  refine (N2.out).mono ?_
  rintro e w2 ⟨v2, rfl, hown, hk⟩
  have HO2 := Lib.hid hown
  have HK2 := Lib.hid (HK1.out.trans hk)
  have FB2 := Lib.hid (show FBox w.heap.size Ap cp Ai ci Af cf Am cm f w2 from hk.other _ _ _ _ (by decide) FB1.out)
  have hs2 := HK2.out.size
  have lt2 := FB2.out.lt
  clear hown hk
  clear c0 c1 c2 c3 c4 c5 c6
  obtain ⟨c0, c1, c2, c3, c4, c5, c6⟩ := FB2.out.cells
  have N3 := Lib.hid (appendNumber_1 f.fl v2 ([67, 82, 85, 88] ++ listN 2 constN f.pool) w.heap.size w2 HO2.out (by simp only [List.length_append, List.length_cons, List.length_nil, beN_length, linksN_length]; omega) (by omega))
  go_wp2_with fail
  refine (N3.out).mono ?_
  rintro e w3 ⟨v3, rfl, hown, hk⟩
  have HO3 := Lib.hid hown
  have HK3 := Lib.hid (HK2.out.trans hk)
  have FB3 := Lib.hid (show FBox w.heap.size Ap cp Ai ci Af cf Am cm f w3 from hk.other _ _ _ _ (by decide) FB2.out)
  have hs3 := HK3.out.size
  have lt3 := FB3.out.lt
  clear hown hk
  clear c0 c1 c2 c3 c4 c5 c6
  obtain ⟨c0, c1, c2, c3, c4, c5, c6⟩ := FB3.out.cells
  have HO3' := Lib.hid (HO3.out.alloc (.cells #[.int .i64 f.this, .int .i64 f.super] 3))
  have HK3' := Lib.hid (HK3.out.alloc (by omega) (.cells #[.int .i64 f.this, .int .i64 f.super] 3))
  have FB3' := Lib.hid (FB3.out.alloc (.cells #[.int .i64 f.this, .int .i64 f.super] 3))
  have N4 := Lib.hid (appendLinks_any [f.this, f.super] (by simp) w3.heap.size v3 ([67, 82, 85, 88] ++ listN 2 constN f.pool ++ beN 1 f.fl) w.heap.size (w3.alloc (.cells #[.int .i64 f.this, .int .i64 f.super] 3)) (heap_new _ _) HO3'.out (by simp only [List.length_append, List.length_cons, List.length_nil, beN_length, linksN_length]; omega) (by simp; omega))
  go_wp2_with fail
  refine (N4.out).mono ?_
  rintro e w4 ⟨v4, rfl, hown, hk⟩
  have HO4 := Lib.hid hown
  have HK4 := Lib.hid (HK3'.out.trans hk)
  have FB4 := Lib.hid (show FBox w.heap.size Ap cp Ai ci Af cf Am cm f w4 from hk.other _ _ _ _ (by decide) FB3'.out)
  have hs4 := HK4.out.size
  have lt4 := FB4.out.lt
  clear hown hk
  clear c0 c1 c2 c3 c4 c5 c6
  obtain ⟨c0, c1, c2, c3, c4, c5, c6⟩ := FB4.out.cells
  have N5 := Lib.hid (listInt_any (B := B) f.ifs Ai ci v4 ([67, 82, 85, 88] ++ listN 2 constN f.pool ++ beN 1 f.fl ++ linksN [f.this, f.super]) w.heap.size w4 (Row.keep HI.out.ifs fun p hp => HK4.out.below.cell (p := p) (by omega)) hB (by omega) HO4.out (by simp only [List.length_append, List.length_cons, List.length_nil, beN_length, linksN_length]; omega) (by omega))
  go_wp2_with fail
  refine (N5.out).mono ?_
  rintro e w5 ⟨v5, rfl, hown, hk⟩
  have HO5 := Lib.hid hown
  have HK5 := Lib.hid (HK4.out.trans hk)
  have FB5 := Lib.hid (show FBox w.heap.size Ap cp Ai ci Af cf Am cm f w5 from hk.other _ _ _ _ (by decide) FB4.out)
  have hs5 := HK5.out.size
  have lt5 := FB5.out.lt
  clear hown hk
  clear c0 c1 c2 c3 c4 c5 c6
  obtain ⟨c0, c1, c2, c3, c4, c5, c6⟩ := FB5.out.cells
  have N6 := Lib.hid (listField_any (B := B) f.fds Af cf v5 ([67, 82, 85, 88] ++ listN 2 constN f.pool ++ beN 1 f.fl ++ linksN [f.this, f.super] ++ listN 1 (fun i => linksN [i]) f.ifs) w.heap.size w5 (HI.out.fds.keep fun p hp => HK5.out.below.cell (p := p) (by omega)) hB (by omega) HO5.out (by simp only [List.length_append, List.length_cons, List.length_nil, beN_length, linksN_length]; omega) (by omega))
  go_wp2_with fail
  refine (N6.out).mono ?_
  rintro e w6 ⟨v6, rfl, hown, hk⟩
  have HO6 := Lib.hid hown
  have HK6 := Lib.hid (HK5.out.trans hk)
  have FB6 := Lib.hid (show FBox w.heap.size Ap cp Ai ci Af cf Am cm f w6 from hk.other _ _ _ _ (by decide) FB5.out)
  have hs6 := HK6.out.size
  have lt6 := FB6.out.lt
  clear hown hk
  clear c0 c1 c2 c3 c4 c5 c6
  obtain ⟨c0, c1, c2, c3, c4, c5, c6⟩ := FB6.out.cells
  have N7 := Lib.hid (listMethod_any (B := B) f.mts HCD.out Am cm v6 ([67, 82, 85, 88] ++ listN 2 constN f.pool ++ beN 1 f.fl ++ linksN [f.this, f.super] ++ listN 1 (fun i => linksN [i]) f.ifs ++ listN 1 headN f.fds) w.heap.size w6 (HI.out.mts.keep fun p hp => HK6.out.below.cell (p := p) (by omega)) hB (by omega) HO6.out (by simp only [List.length_append, List.length_cons, List.length_nil, beN_length, linksN_length]; omega) (by omega))
  go_wp2_with fail
  refine (N7.out).mono ?_
  rintro e w7 ⟨v7, rfl, hown, hk⟩
  have HO7 := Lib.hid hown
  have HK7 := Lib.hid (HK6.out.trans hk)
  have FB7 := Lib.hid (show FBox w.heap.size Ap cp Ai ci Af cf Am cm f w7 from hk.other _ _ _ _ (by decide) FB6.out)
  have hs7 := HK7.out.size
  have lt7 := FB7.out.lt
  clear hown hk
  clear c0 c1 c2 c3 c4 c5 c6
  obtain ⟨c0, c1, c2, c3, c4, c5, c6⟩ := FB7.out.cells
  go_wp2
  go_ret
  refine ⟨_, rfl, ?_, HK7.out.below⟩
  have := HO7.out
  rw [HF.out]
  simp only [List.append_assoc] at this
  exact this
/-- What Encode answers. -/
def encT (f : Fl) : ByteArray := if partsE f = 0 ∧ (fileN f).length ≤ 65536 then mkB (fileN f) else ⟨#[]⟩
def encF (f : Fl) : Int := if partsE f = 0 then (if (fileN f).length ≤ 65536 then 0 else 2) else partsE f
set_option maxRecDepth 1000000 in
set_option maxHeartbeats 6400000 in
theorem Encode_file {B : Nat} (f : Fl) (v : Value) (w : World) (hf : FileAt B w v f) (hB : B ≤ w.heap.size) (ht : Texts f.pool) :
    Calls Try.prog 12 #[v] w fun e w' => e = .returned (.tuple #[.string (encT f), .int .i64 (encF f)]) ∧ Below w.heap.size w w' := by
  have HP := Lib.hid (fun V W hW hWB => partsErr_any (B := B) f V W hW hWB ht)
  have HA := Lib.hid (fun (h : partsE f = 0) V W hW hWB => appendFile_any (B := B) f V W hW hWB ht (partsE_fine h))
  have HT := Lib.hid (show encT f = if partsE f = 0 ∧ (fileN f).length ≤ 65536 then mkB (fileN f) else ⟨#[]⟩ from rfl)
  have HE := Lib.hid (show encF f = if partsE f = 0 then (if (fileN f).length ≤ 65536 then 0 else 2) else partsE f from rfl)
  generalize encT f = T at *
  generalize encF f = E at *
  generalize partsE f = P at *
  obtain ⟨Ap, cp, Ai, ci, Af, cf, Am, cm, rfl, hi⟩ := id hf
  have BE0 := Lib.hid ((Below.refl w.heap.size w).alloc (Nat.le_refl _) (.cells #[.slice Ap f.pool.length cp, .int .i64 f.fl, .int .i64 f.this, .int .i64 f.super, .slice Ai f.ifs.length ci, .slice Af f.fds.length cf, .slice Am f.mts.length cm] 26))
  have BF0 := Lib.hid (FBox.new Ap cp Ai ci Af cf Am cm f w)
  have FL0 := Lib.hid (hf.alloc hB (.cells #[.slice Ap f.pool.length cp, .int .i64 f.fl, .int .i64 f.this, .int .i64 f.super, .slice Ai f.ifs.length ci, .slice Af f.fds.length cf, .slice Am f.mts.length cm] 26))
  clear hi hf
  by_cases hP : P = 0
  · subst hP
    have HA1 := Lib.hid (HA.out rfl)
    go_enter Try.func12, Try.ntmps12
    go_wp2_with fail
    refine (HP.out _ _ FL0.out (by simp; omega)).mono ?_
    rintro e w1 ⟨rfl, hb⟩
    have BE1 := Lib.hid (Below.link BE0.out hb)
    have BF1 := Lib.hid (BF0.out.below hb (BF0.out.lt))
    have FL1 := Lib.hid (FL0.out.below hb (Nat.le_trans hB BE0.out.size))
    have lt1 := BF1.out.lt
    clear hb
    obtain ⟨c0, c1, c2, c3, c4, c5, c6⟩ := BF1.out.cells
    go_wp2_with fail
    refine (HA1.out _ _ FL1.out (by omega)).mono ?_
    rintro e w2 ⟨v2, rfl, hown, hb⟩
    have BE2 := Lib.hid (Below.link BE1.out hb)
    have HO2 := Lib.hid hown
    obtain ⟨a, c, rfl⟩ := hown.slice
    clear hb hown c0 c1 c2 c3 c4 c5 c6
    generalize fileN f = N at *
    by_cases hl : N.length ≤ 65536
    · have HT1 := Lib.hid (show T = mkB N by rw [HT.out]; simp [hl])
      have HE1 := Lib.hid (show E = 0 by rw [HE.out]; simp [hl])
      have hl' : (N.length : Int) ≤ 65536 := by omega
      have hcv : (convert 49 9 (.slice a N.length c)).run Try.prog w2 = .ok (.string ⟨N.toArray⟩) w2 := string_owned HO2.out.app
      clear hl
      go_wp2
      go_ret2
      rw [HT1.out, HE1.out]
      exact ⟨rfl, BE2.out⟩
    · have HT1 := Lib.hid (show T = ⟨#[]⟩ by rw [HT.out, if_neg (fun h => hl h.2)])
      have HE1 := Lib.hid (show E = 2 by rw [HE.out]; simp [hl])
      have hl' : (65536 : Int) < N.length := by omega
      clear hl
      go_wp2
      go_ret2
      rw [HT1.out, HE1.out]
      exact ⟨rfl, BE2.out⟩
  · have HT1 := Lib.hid (show T = ⟨#[]⟩ by rw [HT.out, if_neg (fun h => hP h.1)])
    have HE1 := Lib.hid (show E = P by rw [HE.out, if_neg hP])
    have hne := ne_beq hP
    clear hP
    go_enter Try.func12, Try.ntmps12
    go_wp2_with fail
    refine (HP.out _ _ FL0.out (by simp; omega)).mono ?_
    rintro e w1 ⟨rfl, hb⟩
    have BE1 := Lib.hid (Below.link BE0.out hb)
    clear hb
    go_wp2
    go_ret2
    rw [HT1.out, HE1.out]
    exact ⟨rfl, BE1.out⟩
set_option maxRecDepth 1000000 in
set_option maxHeartbeats 6400000 in
theorem Right_file {B : Nat} (f : Fl) (v : Value) (w : World) (hf : FileAt B w v f) (hB : B ≤ w.heap.size) (ht : Texts f.pool) :
    Calls Try.prog 14 #[v] w fun e w' => e = .returned (.int .i64 (encF f)) ∧ Below w.heap.size w w' := by
  have HP := Lib.hid (fun V W hW hWB => Encode_file (B := B) f V W hW hWB ht)
  obtain ⟨Ap, cp, Ai, ci, Af, cf, Am, cm, rfl, hi⟩ := id hf
  have BE0 := Lib.hid ((Below.refl w.heap.size w).alloc (Nat.le_refl _) (.cells #[.slice Ap f.pool.length cp, .int .i64 f.fl, .int .i64 f.this, .int .i64 f.super, .slice Ai f.ifs.length ci, .slice Af f.fds.length cf, .slice Am f.mts.length cm] 26))
  have FL0 := Lib.hid (hf.alloc hB (.cells #[.slice Ap f.pool.length cp, .int .i64 f.fl, .int .i64 f.this, .int .i64 f.super, .slice Ai f.ifs.length ci, .slice Af f.fds.length cf, .slice Am f.mts.length cm] 26))
  clear hi hf
  go_enter Try.func14, Try.ntmps14
  go_wp2_with fail
  refine (HP.out _ _ FL0.out (by simp; omega)).mono ?_
  rintro e w1 ⟨rfl, hb⟩
  have BE1 := Lib.hid (Below.link BE0.out hb)
  clear hb
  go_wp2
  go_ret
  exact ⟨rfl, BE1.out⟩
end Go.Proofs.Ytcgloepfnnfioaa
