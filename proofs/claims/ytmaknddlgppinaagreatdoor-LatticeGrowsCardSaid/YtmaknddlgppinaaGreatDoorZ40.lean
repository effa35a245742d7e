/-
  CUT and joined from the texts of this seat: R0
-/
import Derived.Test.YtmaknddlgppinaaGreatDoorZ01
import Derived.Test.YtmaknddlgppinaaGreatDoorZ39
import Derived.Deep.RegionHeld3
import Derived.Deep.LoopGhost
set_option linter.unusedVariables false
set_option linter.unusedSimpArgs false
namespace Go.Proofs.YtmaknddlgppinaaGreatDoor
open Go.RowKit
theorem byteAt_nat (n : Int) (i : Nat) (q : Int) (h : n / 256 ^ i % 256 = q) : ((byteAt n i).toNat : Int) = q := by
 have := byteAt_val n i q h
 simpa [bcells] using this
theorem FBox.kept {b : Nat} {Ap Ai Af Am : Option Addr} {cp ci cf cm : Nat} {f : Fl} {base : Nat} {w w' : World} (h : FBox b Ap cp Ai ci Af cf Am cm f w) (hk : Kept base w w') : FBox b Ap cp Ai ci Af cf Am cm f w' := hk.other _ _ _ _ (by decide) h
theorem new1 {W : World} {b : Nat} {v : Value} {t : TypeId} (h : b = W.heap.size) : (W.alloc (.cells #[v] t)).cell? ⟨b, 0, none⟩ = some v := by
 subst h
 rw [alloc_cells]
 rfl
theorem linksN_two (a b : Int) : linksN [a, b] = beN 2 a ++ beN 2 b := by simp [linksN]
theorem linksN_one (a : Int) : linksN [a] = beN 2 a := by simp [linksN]
theorem constN_1 (c : Cn) (h : c.tag = 1) : constN c = [byteAt c.tag 0] ++ (beN 2 (mkB (encA (L c.text))).size ++ L (mkB (encA (L c.text)))) := by unfold constN restN; rw [if_pos h]; rfl
theorem constN_0 (c : Cn) (h1 : c.tag ≠ 1) (h2 : c.tag ≠ 2) (h5 : c.tag ≠ 5) (h6 : c.tag ≠ 6) : constN c = [byteAt c.tag 0] ++ beN 2 c.a := by unfold constN restN; rw [if_neg h1, if_neg h2, if_neg (by omega), linksN_one]; rfl
set_option maxRecDepth 1000000 in
set_option maxHeartbeats 12800000 in
theorem refBytes_raw {B : Nat} (f : Fl) (v : Value) (w : World) (hf : FileAt B w v f) (hB : B ≤ w.heap.size) (hxx : ∀ c ∈ f.pool, c.text.size ≤ 1000000) (hp : FineF f) (h14 : ∀ c ∈ f.pool, c.tag = 1 ∨ c.tag = 4) (hfd : f.fds.length = 0) (hmt : f.mts.length = 0) :
  Calls Tryz.prog 116 #[v] w fun e w' => e = .returned (.string (mkB (fileN f))) ∧ Below w.heap.size w w' := by
 have HF := Lib.hid (show fileN f = [67, 82, 85, 88] ++ (listN 2 constN f.pool ++ (beN 1 f.fl ++ (linksN [f.this, f.super] ++ (listN 1 (fun i => linksN [i]) f.ifs ++ (listN 1 headN f.fds ++ listN 1 methN f.mts))))) from rfl)
 have hpl := hp.pool
 have hil := hp.ifs
 have hfl := hp.nf
 have hml := hp.nm
 obtain ⟨hnc, hnf, hnm⟩ := fine_nums hp
 have HNC := Lib.hid hnc
 have HNF := Lib.hid hnf
 have HNM := Lib.hid hnm
 have HCL := Lib.hid (classE_nums hp.pool hp.cls)
 have HXX := Lib.hid hxx
 have H14 := Lib.hid h14
 have HFD := Lib.hid hfd
 have HMT := Lib.hid hmt
 have HCE := Lib.hid hp.code
 have HCD := Lib.hid (show ∀ m ∈ f.mts, m.code.size ≤ 100000 ∧ m.hs.length ≤ 1000 from fun m hm => by have := hp.code m hm; omega)
 generalize fileN f = R at *
 obtain ⟨Ap, cp, Ai, ci, Af, cf, Am, cm, rfl, hfi⟩ := id hf
 have HI := Lib.hid hfi
 have BE0 := Lib.hid ((Below.refl w.heap.size w).alloc (Nat.le_refl _) (.cells #[.slice Ap f.pool.length cp, .int .i64 f.fl, .int .i64 f.this, .int .i64 f.super, .slice Ai f.ifs.length ci, .slice Af f.fds.length cf, .slice Am f.mts.length cm] 94))
 have BF0 := Lib.hid (FBox.new Ap cp Ai ci Af cf Am cm f w)
 clear hfi hf hp hnc hnf hnm hxx h14 hfd hmt
 have hz1 : ∀ (k : Nat) (n : Int), (mkB (beN k n)).size = k := fun k n => by rw [size_L, L_mkB, beN_length]
 have hz2 : ∀ a b : ByteArray, (a ++ b).size = a.size + b.size := fun a b => ByteArray.size_append ..
 go_enter Tryz.func116, Tryz.ntmps116
 go_wp2_with fail
 refine (two_any _ (by omega) _).mono ?_
 rintro e w1 ⟨rfl, hb⟩
 have BE1 := Lib.hid (Below.link BE0.out hb)
 have BF1 := Lib.hid (BF0.out.below hb BF0.out.lt)
 have hs1 := BE1.out.size
 clear hb
 obtain ⟨S0, hS0⟩ : ∃ S, (⟨#[67, 82, 85, 88]⟩ : ByteArray) ++ mkB (beN 2 (f.pool.length : Int)) = S := ⟨_, rfl⟩
 have HLS := Lib.hid (show L S0 = [67, 82, 85, 88] ++ beN 2 (f.pool.length : Int) by rw [← hS0, L_append, L_mkB])
 have hSsz : S0.size ≤ 1000000000 := by rw [size_L, HLS.out]; simp [beN_length]
 have hcv := run_bytes_of_string (P := Tryz.prog) w1 9 166 5 S0 Tryz.underlying9 Tryz.underlying166 Tryz.underlying5
 have om2 := ownM_bytes w1 S0 w.heap.size hs1 hSsz
 have be2 := (Below.refl w1.heap.size w1).drew.alloc (Nat.le_refl _) (.cells (bytesRow S0 (grownCap w1 S0.size 0 5)) 5 ((bytesRow S0 (grownCap w1 S0.size 0 5)).size, (bytesRow S0 (grownCap w1 S0.size 0 5)).size + 1))
 rw [HLS.out] at om2
 generalize w1.drew.alloc (.cells (bytesRow S0 (grownCap w1 S0.size 0 5)) 5 ((bytesRow S0 (grownCap w1 S0.size 0 5)).size, (bytesRow S0 (grownCap w1 S0.size 0 5)).size + 1)) = w2 at hcv om2 be2
 generalize (Value.slice (some ⟨w1.heap.size, 0, none⟩) S0.size (grownCap w1 S0.size 0 5)) = v2 at hcv om2
 obtain ⟨H0, hH0⟩ : ∃ H, [67, 82, 85, 88] ++ beN 2 (f.pool.length : Int) = H := ⟨_, rfl⟩
 rw [hH0] at om2
 have hl0 : H0.length = 6 := by rw [← hH0]; simp [beN_length]
 have HH0 := Lib.hid hH0
 have OM2 := Lib.hid om2
 have K2 := Lib.hid (Kept.of_below (Below.link BE1.out be2) (Nat.le_refl _))
 have BF2 := Lib.hid (BF1.out.below be2 BF1.out.lt)
 have ltBF2 := BF2.out.lt
 clear om2 be2 hH0
 obtain ⟨c0, c1, c2, c3, c4, c5, c6⟩ := BF2.out.cells
 go_wp2
 clear hcv hS0
 go_loopg [3, 4] f.pool.length (fun g bv iv wx => ∃ k : Nat, iv = .int .i64 k ∧ k + g = f.pool.length ∧ OwnM wx w.heap.size bv (H0 ++ (f.pool.take k).flatMap constN) ∧ FBox w.heap.size Ap cp Ai ci Af cf Am cm f wx ∧ Kept w.heap.size w wx)
 case atStart => exact ⟨0, rfl, by omega, by simpa using OM2.out, BF2.out, K2.out⟩
 case round =>
  obtain ⟨k, rfl, hkg, hom, hbf, hkk⟩ := hrel
  obtain ⟨w10, hw10⟩ : ∃ wo, wo = wr := ⟨_, rfl⟩
  subst hw10
  obtain ⟨g1k, hg1k⟩ : ∃ g, g = gk := ⟨_, rfl⟩
  subst hg1k
  obtain ⟨F, hF⟩ : ∃ F, (f.pool.take k).flatMap constN = F := ⟨_, rfl⟩
  rw [hF] at hom
  have hFl : F.length ≤ 131090000 := by rw [← hF]; exact take_le constN 65545 2000 f.pool (fun c _ => constN_le c) hpl k
  have HFK := Lib.hid hF
  clear hF
  have OM10 := Lib.hid hom
  have BF10 := Lib.hid hbf
  have K10 := Lib.hid hkk
  have hs10 := hkk.size
  clear hom hbf hkk c0 c1 c2 c3 c4 c5 c6
  obtain ⟨c0, c1, c2, c3, c4, c5, c6⟩ := BF10.out.cells
  have ltBF10 := BF10.out.lt
  by_cases hlt : k < f.pool.length
  ·have hgg : g1k - 1 < g1k := by omega
   obtain ⟨c, hc⟩ : ∃ c, f.pool[k]? = some c := ⟨_, List.getElem?_eq_getElem hlt⟩
   have HNX := Lib.hid (show (f.pool.take (k + 1)).flatMap constN = F ++ constN c by rw [flat_next constN hc, HFK.out])
   obtain ⟨ht1, ht7, hca, hcb, hcc⟩ := HNC.out c (List.mem_of_getElem? hc)
   have HEN := Lib.hid (fun W => refEncode_any c.text W (HXX.out c (List.mem_of_getElem? hc)))
   have hI1 := HI.out.keep (w' := w10) (fun p hp => K10.out.below.cell (p := p) (by omega))
   obtain ⟨p0, o0, rfl, hbb, y0, y1, y2, y3, y4, y5⟩ := hI1.pool.at_ hc
   have hwk : IntKind.i64.wrap (k : Int) = k := IntWalk.i64_in _ (by omega)
   have hlk : (k : Int) < f.pool.length := by omega
   have OM11 := Lib.hid (OM10.out.alloc (.cells #[.int .i64 c.tag, .string c.text, .int .i64 c.n, .int .i64 c.a, .int .i64 c.b, .int .i64 c.c] 138))
   have K11 := Lib.hid (K10.out.alloc (by omega) (.cells #[.int .i64 c.tag, .string c.text, .int .i64 c.n, .int .i64 c.a, .int .i64 c.b, .int .i64 c.c] 138))
   have BF11 := Lib.hid (BF10.out.alloc (.cells #[.int .i64 c.tag, .string c.text, .int .i64 c.n, .int .i64 c.a, .int .i64 c.b, .int .i64 c.c] 138))
   have CB11 := Lib.hid (heap_new w10 (.cells #[.int .i64 c.tag, .string c.text, .int .i64 c.n, .int .i64 c.a, .int .i64 c.b, .int .i64 c.c] 138))
   have hc' := hc
   clear hc hI1
   go_wp2_with (at_builtin; refine wpList_append_M rfl (.tmp 35) (.tmp 39) 166 rfl rfl (OM11.out.alloc (.cells #[.int .u8 (c.tag)] 5)) _ rfl [byteAt c.tag 0] (src1 (z := c.tag) (byteAt_nat c.tag 0 _ (by omega)) (new1 (by simp))) ?sa1 ?sb1 ?_)
   case sa1 => (simp only [List.length_append, List.length_cons, List.length_nil, L_append, L_mkB, beN_length, linksN_length]; omega)
   case sb1 => simp; omega
   intro v12 w12 hown hk
   have OM12 := Lib.hid hown
   have K12 := Lib.hid (Kept.trans (K11.out.alloc (by first | omega | (simp; omega)) (.cells #[.int .u8 (c.tag)] 5)) hk)
   have BF12 := Lib.hid (FBox.kept (BF11.out.alloc (.cells #[.int .u8 (c.tag)] 5)) hk)
   have CB12 := Lib.hid (hk.other _ _ _ _ (by decide) (heap_alloc_lt (o := (.cells #[.int .u8 (c.tag)] 5)) CB11.out))
   have hs12 := K12.out.size
   clear hown hk
   clear c0 c1 c2 c3 c4 c5 c6 y0 y1 y2 y3 y4 y5
   obtain ⟨c0, c1, c2, c3, c4, c5, c6⟩ := BF12.out.cells
   have ltBF12 := BF12.out.lt
   have ltCB12 := lt_of_block CB12.out
   have x0 := cells_of CB12.out 0
   have x1 := cells_of CB12.out 1
   have x2 := cells_of CB12.out 2
   have x3 := cells_of CB12.out 3
   have x4 := cells_of CB12.out 4
   have x5 := cells_of CB12.out 5
   have h14 := H14.out c (List.mem_of_getElem? hc')
   clear hc'
   rcases (show c.tag = 1 ∨ (c.tag ≠ 1 ∧ c.tag ≠ 2 ∧ c.tag ≠ 5 ∧ c.tag ≠ 6) by omega) with ht | ⟨h1, h2, h5, h6⟩
   ·have g1 : (c.tag == 1) = true := by simp [ht]
    have g2 : (c.tag == 2) = false := by simp [ht]
    have g5 : (c.tag == 5) = false := by simp [ht]
    have g6 : (c.tag == 6) = false := by simp [ht]
    have HCN := Lib.hid (constN_1 c ht)
    clear ht ht1 ht7
    have hel := encA_le (L c.text)
    go_wp2_with fail
    refine (HEN.out _).mono ?_
    rintro e w13 ⟨rfl, hb⟩
    rw [show strV (encA (L c.text)) = .string (mkB (encA (L c.text))) from rfl]
    have hel2 : (mkB (encA (L c.text))).size ≤ 65535 := by rw [size_L, L_mkB]; exact hel
    have hel3 : (L (mkB (encA (L c.text)))).length ≤ 65535 := by rw [L_mkB]; exact hel
    generalize mkB (encA (L c.text)) = E at *
    have OM13 := Lib.hid (OM12.out.below hb)
    have K13 := Lib.hid (K12.out.link (by omega) hb)
    have BF13 := Lib.hid (BF12.out.below hb BF12.out.lt)
    have CB13 := Lib.hid (Below.keep hb (lt_of_block CB12.out) CB12.out)
    have hs13 := K13.out.size
    clear hb
    clear c0 c1 c2 c3 c4 c5 c6 x0 x1 x2 x3 x4 x5
    obtain ⟨c0, c1, c2, c3, c4, c5, c6⟩ := BF13.out.cells
    have ltBF13 := BF13.out.lt
    have ltCB13 := lt_of_block CB13.out
    have x0 := cells_of CB13.out 0
    have x1 := cells_of CB13.out 1
    have x2 := cells_of CB13.out 2
    have x3 := cells_of CB13.out 3
    have x4 := cells_of CB13.out 4
    have x5 := cells_of CB13.out 5
    go_wp2_with fail
    refine (two_any _ (by omega) _).mono ?_
    rintro e w14 ⟨rfl, hb⟩
    have OM14 := Lib.hid (OM13.out.below hb)
    have K14 := Lib.hid (K13.out.link (by omega) hb)
    have BF14 := Lib.hid (BF13.out.below hb BF13.out.lt)
    have CB14 := Lib.hid (Below.keep hb (lt_of_block CB13.out) CB13.out)
    have hs14 := K14.out.size
    clear hb
    clear c0 c1 c2 c3 c4 c5 c6 x0 x1 x2 x3 x4 x5
    obtain ⟨c0, c1, c2, c3, c4, c5, c6⟩ := BF14.out.cells
    have ltBF14 := BF14.out.lt
    have ltCB14 := lt_of_block CB14.out
    have x0 := cells_of CB14.out 0
    have x1 := cells_of CB14.out 1
    have x2 := cells_of CB14.out 2
    have x3 := cells_of CB14.out 3
    have x4 := cells_of CB14.out 4
    have x5 := cells_of CB14.out 5
    go_wp2_with (at_builtin; refine wpList_append_M rfl (.tmp 56) (.tmp 61) 9 rfl rfl OM14.out _ rfl (L (mkB (beN 2 (E.size : Int)) ++ E)) (srcS _ _) ?sa2 ?sb2 ?_)
    case sa2 => (simp only [List.length_append, List.length_cons, List.length_nil, L_append, L_mkB, beN_length, linksN_length]; omega)
    case sb2 => omega
    intro v15 w15 hown hk
    have OM15 := Lib.hid hown
    have K15 := Lib.hid (Kept.trans K14.out hk)
    have BF15 := Lib.hid (FBox.kept BF14.out hk)
    have CB15 := Lib.hid (hk.other _ _ _ _ (by decide) CB14.out)
    have hs15 := K15.out.size
    clear hown hk
    clear c0 c1 c2 c3 c4 c5 c6 x0 x1 x2 x3 x4 x5
    obtain ⟨c0, c1, c2, c3, c4, c5, c6⟩ := BF15.out.cells
    have ltBF15 := BF15.out.lt
    have ltCB15 := lt_of_block CB15.out
    have x0 := cells_of CB15.out 0
    have x1 := cells_of CB15.out 1
    have x2 := cells_of CB15.out 2
    have x3 := cells_of CB15.out 3
    have x4 := cells_of CB15.out 4
    have x5 := cells_of CB15.out 5
    go_wp2
    go_roundg (g1k - 1)
    case measure => exact hgg
    case rel =>
     refine ⟨k + 1, by go_num, by omega, ?_, BF15.out, K15.out⟩
     rw [HNX.out, HCN.out]
     have := OM15.out
     simpa only [L_append, L_mkB, List.append_assoc, List.cons_append, List.nil_append] using this
   ·have g1 : (c.tag == 1) = false := by simpa using h1
    have g2 : (c.tag == 2) = false := by simpa using h2
    have g5 : (c.tag == 5) = false := by simpa using h5
    have g6 : (c.tag == 6) = false := by simpa using h6
    have HCN := Lib.hid (constN_0 c h1 h2 h5 h6)
    clear h1 h2 h5 h6 ht1 ht7
    go_wp2_with fail
    refine (two_any c.a (by omega) _).mono ?_
    rintro e w13 ⟨rfl, hb⟩
    have OM13 := Lib.hid (OM12.out.below hb)
    have K13 := Lib.hid (K12.out.link (by omega) hb)
    have BF13 := Lib.hid (BF12.out.below hb BF12.out.lt)
    have CB13 := Lib.hid (Below.keep hb (lt_of_block CB12.out) CB12.out)
    have hs13 := K13.out.size
    clear hb
    clear c0 c1 c2 c3 c4 c5 c6 x0 x1 x2 x3 x4 x5
    obtain ⟨c0, c1, c2, c3, c4, c5, c6⟩ := BF13.out.cells
    have ltBF13 := BF13.out.lt
    have ltCB13 := lt_of_block CB13.out
    have x0 := cells_of CB13.out 0
    have x1 := cells_of CB13.out 1
    have x2 := cells_of CB13.out 2
    have x3 := cells_of CB13.out 3
    have x4 := cells_of CB13.out 4
    have x5 := cells_of CB13.out 5
    go_wp2_with (at_builtin; refine wpList_append_M rfl (.tmp 43) (.tmp 46) 9 rfl rfl OM13.out _ rfl (L (mkB (beN 2 c.a))) (srcS _ _) ?sa4 ?sb4 ?_)
    case sa4 => (simp only [List.length_append, List.length_cons, List.length_nil, L_append, L_mkB, beN_length, linksN_length]; omega)
    case sb4 => omega
    intro v14 w14 hown hk
    have OM14 := Lib.hid hown
    have K14 := Lib.hid (Kept.trans K13.out hk)
    have BF14 := Lib.hid (FBox.kept BF13.out hk)
    have CB14 := Lib.hid (hk.other _ _ _ _ (by decide) CB13.out)
    have hs14 := K14.out.size
    clear hown hk
    clear c0 c1 c2 c3 c4 c5 c6 x0 x1 x2 x3 x4 x5
    obtain ⟨c0, c1, c2, c3, c4, c5, c6⟩ := BF14.out.cells
    have ltBF14 := BF14.out.lt
    have ltCB14 := lt_of_block CB14.out
    have x0 := cells_of CB14.out 0
    have x1 := cells_of CB14.out 1
    have x2 := cells_of CB14.out 2
    have x3 := cells_of CB14.out 3
    have x4 := cells_of CB14.out 4
    have x5 := cells_of CB14.out 5
    go_wp2
    go_roundg (g1k - 1)
    case measure => exact hgg
    case rel =>
     refine ⟨k + 1, by go_num, by omega, ?_, BF14.out, K14.out⟩
     rw [HNX.out, HCN.out]
     have := OM14.out
     simpa only [L_append, L_mkB, List.append_assoc, List.cons_append, List.nil_append] using this
  ·have HFE := Lib.hid (show f.pool.flatMap constN = F by have := HFK.out; rwa [List.take_of_length_le (by omega)] at this)
   clear HFK
   obtain ⟨hth, hsu, hif⟩ := HCL.out
   have HIF := Lib.hid hif
   clear hif
   go_wp2
   have hsz0 : w10.heap.size ≤ w10.drew.heap.size := Nat.le_refl _
   have hszr : w10.drew.heap.size ≤ w10.heap.size := Nat.le_refl _
   refine wp_region_held_drew (S := (fun w' => FBox w.heap.size Ap cp Ai ci Af cf Am cm f w' ∧ w'.cell? ⟨w.heap.size, 1, none⟩ = some (.int .i64 f.fl) ∧ w'.cell? ⟨w.heap.size, 2, none⟩ = some (.int .i64 f.this) ∧ w'.cell? ⟨w.heap.size, 3, none⟩ = some (.int .i64 f.super) ∧ w'.cell? ⟨w.heap.size, 4, none⟩ = some (.slice Ai f.ifs.length ci) ∧ Kept w.heap.size w w')) (by kernel_rfl) (⟨BF10.out.drew, c1, c2, c3, c4, K10.out.drew⟩) (fun hHeld => ?_)
   refine wpAnyH_take (i := 0) (oi := _) (v := ?v3x0) rfl (by kernel_rfl) (by kernel_rfl) (by kernel_rfl) (fun _ _ _ h => h) (Or.inl ⟨by rfl, ?hy3x0⟩) hHeld ?_
   case hy3x0 => ((intro w hSw); (try dsimp only at hSw); go_simp; try with_reducible rfl)
   try simp only [pu0, puN, pu1, pu2, pu3]
   refine wpAnyH_take (i := 1) (oi := _) (v := ?v3x1) rfl (by kernel_rfl) (by kernel_rfl) (by kernel_rfl) (fun _ _ _ h => h) (Or.inl ⟨by rfl, ?hy3x1⟩) hHeld ?_
   case hy3x1 => ((intro w hSw); (try dsimp only at hSw); go_simp; try with_reducible rfl)
   try simp only [pu0, puN, pu1, pu2, pu3]
   refine wpAnyH_take (i := 2) (oi := _) (v := ?v3x2) rfl (by kernel_rfl) (by kernel_rfl) (by kernel_rfl) (fun _ _ _ h => h) (Or.inl ⟨by rfl, ?hy3x2⟩) hHeld ?_
   case hy3x2 => ((intro w hSw); (try dsimp only at hSw); go_simp; try with_reducible rfl)
   try simp only [pu0, puN, pu1, pu2, pu3]
   refine wpAnyH_take (i := 4) (oi := _) (v := ?v3x4) rfl (by kernel_rfl) (by kernel_rfl) (by kernel_rfl) (fun _ _ _ h => h) (Or.inl ⟨by rfl, ?hy3x4⟩) hHeld ?_
   case hy3x4 => ((intro w hSw); (try dsimp only at hSw); go_simp; try with_reducible rfl)
   try simp only [pu0, puN, pu1, pu2, pu3]
   refine wpAnyH_take (i := 5) (oi := _) (v := ?v3x5) rfl (by kernel_rfl) (by kernel_rfl) (by kernel_rfl) (fun _ _ _ h => h) (Or.inl ⟨by rfl, ?hy3x5⟩) hHeld ?_
   case hy3x5 => ((intro w hSw); (try dsimp only at hSw); go_simp; try with_reducible rfl)
   try simp only [pu0, puN, pu1, pu2, pu3]
   refine wpAnyH_take (i := 8) (oi := _) (v := ?v3x8) rfl (by kernel_rfl) (by kernel_rfl) (by kernel_rfl) (fun _ _ _ h => h) (Or.inl ⟨by rfl, ?hy3x8⟩) hHeld ?_
   case hy3x8 => ((intro w hSw); (try dsimp only at hSw); go_simp; try with_reducible rfl)
   try simp only [pu0, puN, pu1, pu2, pu3]
   refine wpAnyH_take (i := 9) (oi := _) (v := ?v3x9) rfl (by kernel_rfl) (by kernel_rfl) (by kernel_rfl) (fun _ _ _ h => h) (Or.inl ⟨by rfl, ?hy3x9⟩) hHeld ?_
   case hy3x9 => ((intro w hSw); (try dsimp only at hSw); go_simp; try with_reducible rfl)
   try simp only [pu0, puN, pu1, pu2, pu3]
   refine wpAnyH_take (i := 12) (oi := _) (v := ?v3x12) rfl (by kernel_rfl) (by kernel_rfl) (by kernel_rfl) (fun _ _ _ h => h) (Or.inl ⟨by rfl, ?hy3x12⟩) hHeld ?_
   case hy3x12 => ((intro w hSw); (try dsimp only at hSw); go_simp; try with_reducible rfl)
   try simp only [pu0, puN, pu1, pu2, pu3]
   refine wpAnyH_take (i := 13) (oi := _) (v := ?v3x13) rfl (by kernel_rfl) (by kernel_rfl) (by kernel_rfl) (fun _ _ _ h => h) (Or.inl ⟨by rfl, ?hy3x13⟩) hHeld ?_
   case hy3x13 => ((intro w hSw); (try dsimp only at hSw); go_simp; try with_reducible rfl)
   try simp only [pu0, puN, pu1, pu2, pu3]
   refine wpAnyH_take (i := 14) (oi := ({ dst := some 110, op := Op.call { callee := Callee.builtin Builtin.len, args := #[Operand.tmp 109], argTypes := #[29] }, type := 3, pos := "ref.go:280", after := #[{ on := 13, ground := Ground.data }], guard := none } : Oper)) (v := ?v3x14) rfl (by kernel_rfl) (by kernel_rfl) (by kernel_rfl) (fun _ _ _ h => h) (Or.inl ⟨by rfl, ?hy3x14⟩) hHeld ?_
   case hy3x14 => ((intro w hSw); (try dsimp only at hSw); go_simp; try with_reducible rfl)
   try simp only [pu0, puN, pu1, pu2, pu3]
   refine wpAnyH_ready (rs := [3]) (by kernel_rfl) (by simp) ?_
   refine AllReadyH.cons (o := _) rfl (fun K hK => ?_) AllReadyH.nil
   go_simp
   go_at_call 131
   refine (one_any (f.fl) _).mono ?_
   rintro e wz0 ⟨rfl, hb0⟩
   try go_wp2_with fail
   have hsz1 : w10.heap.size ≤ wz0.heap.size := Nat.le_trans hsz0 hb0.size
   refine hK.out _ _ ⟨FBox.below hHeld.1 hb0 (FBox.lt hHeld.1), keepc hb0 (B := w10.heap.size) (by omega) (by have := hsz0; omega) hHeld.2.1, keepc hb0 (B := w10.heap.size) (by omega) (by have := hsz0; omega) hHeld.2.2.1, keepc hb0 (B := w10.heap.size) (by omega) (by have := hsz0; omega) hHeld.2.2.2.1, keepc hb0 (B := w10.heap.size) (by omega) (by have := hsz0; omega) hHeld.2.2.2.2.1, Kept.link hHeld.2.2.2.2.2 (by have := hsz0; omega) hb0⟩ (fun hHeld1 => ?_)
   clear hK K hHeld
   try simp only [pu0, puN, pu1, pu2, pu3]
   refine wpAnyH_ready (rs := [6]) (by kernel_rfl) (by simp) ?_
   refine AllReadyH.cons (o := _) rfl (fun K hK => ?_) AllReadyH.nil
   go_simp
   go_at_call 129
   refine (two_any (f.this) (by omega) _).mono ?_
   rintro e wz1 ⟨rfl, hb1⟩
   try go_wp2_with fail
   have hsz2 : w10.heap.size ≤ wz1.heap.size := Nat.le_trans hsz1 hb1.size
   refine hK.out _ _ ⟨FBox.below hHeld1.1 hb1 (FBox.lt hHeld1.1), keepc hb1 (B := w10.heap.size) (by omega) (by have := hsz1; omega) hHeld1.2.1, keepc hb1 (B := w10.heap.size) (by omega) (by have := hsz1; omega) hHeld1.2.2.1, keepc hb1 (B := w10.heap.size) (by omega) (by have := hsz1; omega) hHeld1.2.2.2.1, keepc hb1 (B := w10.heap.size) (by omega) (by have := hsz1; omega) hHeld1.2.2.2.2.1, Kept.link hHeld1.2.2.2.2.2 (by have := hsz1; omega) hb1⟩ (fun hHeld2 => ?_)
   clear hK K hHeld1
   try simp only [pu0, puN, pu1, pu2, pu3]
   refine wpAnyH_take (i := 7) (oi := _) (v := ?v3x7) rfl (by kernel_rfl) (by kernel_rfl) (by kernel_rfl) (fun _ _ _ h => h) (Or.inl ⟨by rfl, ?hy3x7⟩) hHeld2 ?_
   case hy3x7 => ((intro w hSw); (try dsimp only at hSw); go_simp; try with_reducible rfl)
   try simp only [pu0, puN, pu1, pu2, pu3]
   refine wpAnyH_ready (rs := [10]) (by kernel_rfl) (by simp) ?_
   refine AllReadyH.cons (o := _) rfl (fun K hK => ?_) AllReadyH.nil
   go_simp
   go_at_call 129
   refine (two_any (f.super) (by omega) _).mono ?_
   rintro e wz2 ⟨rfl, hb2⟩
   try go_wp2_with fail
   have hsz3 : w10.heap.size ≤ wz2.heap.size := Nat.le_trans hsz2 hb2.size
   refine hK.out _ _ ⟨FBox.below hHeld2.1 hb2 (FBox.lt hHeld2.1), keepc hb2 (B := w10.heap.size) (by omega) (by have := hsz2; omega) hHeld2.2.1, keepc hb2 (B := w10.heap.size) (by omega) (by have := hsz2; omega) hHeld2.2.2.1, keepc hb2 (B := w10.heap.size) (by omega) (by have := hsz2; omega) hHeld2.2.2.2.1, keepc hb2 (B := w10.heap.size) (by omega) (by have := hsz2; omega) hHeld2.2.2.2.2.1, Kept.link hHeld2.2.2.2.2.2 (by have := hsz2; omega) hb2⟩ (fun hHeld3 => ?_)
   clear hK K hHeld2
   try simp only [pu0, puN, pu1, pu2, pu3]
   refine wpAnyH_take (i := 11) (oi := _) (v := ?v3x11) rfl (by kernel_rfl) (by kernel_rfl) (by kernel_rfl) (fun _ _ _ h => h) (Or.inl ⟨by rfl, ?hy3x11⟩) hHeld3 ?_
   case hy3x11 => ((intro w hSw); (try dsimp only at hSw); go_simp; try with_reducible rfl)
   try simp only [pu0, puN, pu1, pu2, pu3]
   refine wpAnyH_ready (rs := [15]) (by kernel_rfl) (by simp) ?_
   refine AllReadyH.cons (o := _) rfl (fun K hK => ?_) AllReadyH.nil
   go_simp
   go_at_call 131
   refine (one_any ((f.ifs.length : Int)) _).mono ?_
   rintro e wz3 ⟨rfl, hb3⟩
   try go_wp2_with fail
   have hsz4 : w10.heap.size ≤ wz3.heap.size := Nat.le_trans hsz3 hb3.size
   refine hK.out _ _ ⟨FBox.below hHeld3.1 hb3 (FBox.lt hHeld3.1), keepc hb3 (B := w10.heap.size) (by omega) (by have := hsz3; omega) hHeld3.2.1, keepc hb3 (B := w10.heap.size) (by omega) (by have := hsz3; omega) hHeld3.2.2.1, keepc hb3 (B := w10.heap.size) (by omega) (by have := hsz3; omega) hHeld3.2.2.2.1, keepc hb3 (B := w10.heap.size) (by omega) (by have := hsz3; omega) hHeld3.2.2.2.2.1, Kept.link hHeld3.2.2.2.2.2 (by have := hsz3; omega) hb3⟩ (fun hHeld4 => ?_)
   clear hK K hHeld3
   try simp only [pu0, puN, pu1, pu2, pu3]
   refine wpAnyH_take (i := 16) (oi := _) (v := ?v3x16) rfl (by kernel_rfl) (by kernel_rfl) (by kernel_rfl) (fun _ _ _ h => h) (Or.inl ⟨by rfl, ?hy3x16⟩) hHeld4 ?_
   case hy3x16 => ((intro w hSw); (try dsimp only at hSw); go_simp; try with_reducible rfl)
   try simp only [pu0, puN, pu1, pu2, pu3]
   refine wpAnyH_ready (rs := [17]) (by kernel_rfl) (by simp) ?_
   refine AllReadyH.cons (o := _) rfl (fun K hK => ?_) AllReadyH.nil
   refine wp_append_M (.tmp 96) (.tmp 112) 9 rfl (by rfl) ((((OM10.out.drew.below hb0).below hb1).below hb2).below hb3) (.string (mkB (beN 1 f.fl) ++ mkB (beN 2 f.this) ++ mkB (beN 2 f.super) ++ mkB (beN 1 (f.ifs.length : Int)))) (by rfl) (L (mkB (beN 1 f.fl) ++ mkB (beN 2 f.this) ++ mkB (beN 2 f.super) ++ mkB (beN 1 (f.ifs.length : Int)))) (srcS _ _) ?sa7 ?sb7 ?_
   case sa7 => (simp only [List.length_append, List.length_cons, List.length_nil, L_append, L_mkB, beN_length, linksN_length]; omega)
   case sb7 => (have := hsz4; omega)
   intro v16 w16 hown hk
   refine hK.out _ _ ⟨(FBox.kept hHeld4.1 hk), cells_of (FBox.kept hHeld4.1 hk) 1, cells_of (FBox.kept hHeld4.1 hk) 2, cells_of (FBox.kept hHeld4.1 hk) 3, cells_of (FBox.kept hHeld4.1 hk) 4, Kept.trans hHeld4.2.2.2.2.2 hk⟩ (fun hHeld5 => ?_)
   clear hK K hHeld4
   try simp only [pu0, puN, pu1, pu2, pu3]
   refine wpAnyH_take (i := 18) (oi := _) (v := ?v3x18) rfl (by kernel_rfl) (by kernel_rfl) (by kernel_rfl) (fun _ _ _ h => h) (Or.inl ⟨by rfl, ?hy3x18⟩) hHeld5 ?_
   case hy3x18 => ((intro w hSw); (try dsimp only at hSw); go_simp; try with_reducible rfl)
   try simp only [pu0, puN, pu1, pu2, pu3]
   refine wpAnyH_done (by kernel_rfl) ?_ _
   have OM16 := Lib.hid hown
   have K16 := Lib.hid hHeld5.2.2.2.2.2
   have BF16 := Lib.hid hHeld5.1
   have hs16 := K16.out.size
   clear hHeld5 hown hk hb0 hb1 hb2 hb3
   clear c0 c1 c2 c3 c4 c5 c6
   obtain ⟨c0, c1, c2, c3, c4, c5, c6⟩ := BF16.out.cells
   have ltBF16 := BF16.out.lt
   have OM17 := Lib.hid (show OwnM w16 w.heap.size v16 (H0 ++ (F ++ (beN 1 f.fl ++ (linksN [f.this, f.super] ++ beN 1 f.ifs.length)))) by rw [linksN_two]; have := OM16.out; simpa only [L_append, L_mkB, List.append_assoc, List.cons_append, List.nil_append] using this)
   obtain ⟨H2, hH2⟩ : ∃ H, H0 ++ (F ++ (beN 1 f.fl ++ (linksN [f.this, f.super] ++ beN 1 f.ifs.length))) = H := ⟨_, rfl⟩
   rw [hH2] at OM17
   have hl2 : H2.length ≤ 131091000 := by rw [← hH2]; simp only [List.length_append, beN_length, linksN_length, List.length_cons, List.length_nil]; omega
   have HH2 := Lib.hid hH2
   clear hH2 OM16
   go_wp2
   go_loopg [3, 10] f.ifs.length (fun g bv iv wx => ∃ k : Nat, iv = .int .i64 k ∧ k + g = f.ifs.length ∧ OwnM wx w.heap.size bv (H2 ++ (f.ifs.take k).flatMap (fun i => linksN [i])) ∧ FBox w.heap.size Ap cp Ai ci Af cf Am cm f wx ∧ Kept w.heap.size w wx)
   case atStart => exact ⟨0, rfl, by omega, by rw [List.take_zero]; simpa using OM17.out, BF16.out, K16.out⟩
   case round =>
    obtain ⟨k2, rfl, hkg, hom, hbf, hkk⟩ := hrel
    obtain ⟨w20, hw20⟩ : ∃ wo, wo = wr := ⟨_, rfl⟩
    subst hw20
    obtain ⟨F2, hF2⟩ : ∃ F, (f.ifs.take k2).flatMap (fun i => linksN [i]) = F := ⟨_, rfl⟩
    rw [hF2] at hom
    have hFl2 : F2.length ≤ 32 := by rw [← hF2]; exact take_le (fun i => linksN [i]) 2 16 f.ifs (fun i _ => by rw [linksN_length]; simp) hil k2
    have HFK2 := Lib.hid hF2
    clear hF2
    have OM20 := Lib.hid hom
    have BF20 := Lib.hid hbf
    have K20 := Lib.hid hkk
    have hs20 := hkk.size
    clear hom hbf hkk c0 c1 c2 c3 c4 c5 c6
    obtain ⟨c0, c1, c2, c3, c4, c5, c6⟩ := BF20.out.cells
    have ltBF20 := BF20.out.lt
    by_cases hlt : k2 < f.ifs.length
    ·have hgg : gk - 1 < gk := by omega
     obtain ⟨i2, hi2⟩ : ∃ c, f.ifs[k2]? = some c := ⟨_, List.getElem?_eq_getElem hlt⟩
     have HNX := Lib.hid (show (f.ifs.take (k2 + 1)).flatMap (fun i => linksN [i]) = F2 ++ beN 2 i2 by rw [flat_next (fun i => linksN [i]) hi2, HFK2.out, linksN_one])
     have hi0 := HIF.out i2 (List.mem_of_getElem? hi2)
     have hI1 := HI.out.keep (w' := w20) (fun p hp => K20.out.below.cell (p := p) (by omega))
     obtain ⟨p0, o0, rfl, hbb, y0⟩ := hI1.ifs.at_ hi2
     have hwk : IntKind.i64.wrap (k2 : Int) = k2 := IntWalk.i64_in _ (by omega)
     have hlk : (k2 : Int) < f.ifs.length := by omega
     clear hi2 hI1
     go_wp2_with fail
     refine (two_any i2 (by omega) _).mono ?_
     rintro e w21 ⟨rfl, hb⟩
     have OM21 := Lib.hid (OM20.out.below hb)
     have K21 := Lib.hid (K20.out.link (by omega) hb)
     have BF21 := Lib.hid (BF20.out.below hb BF20.out.lt)
     have hs21 := K21.out.size
     clear hb
     clear c0 c1 c2 c3 c4 c5 c6 y0
     obtain ⟨c0, c1, c2, c3, c4, c5, c6⟩ := BF21.out.cells
     have ltBF21 := BF21.out.lt
     go_wp2_with (at_builtin; refine wpList_append_M rfl (.tmp 121) (.tmp 127) 9 rfl rfl OM21.out _ rfl (L (mkB (beN 2 i2))) (srcS _ _) ?sa8 ?sb8 ?_)
     case sa8 => (simp only [List.length_append, List.length_cons, List.length_nil, L_append, L_mkB, beN_length, linksN_length]; omega)
     case sb8 => omega
     intro v22 w22 hown hk
     have OM22 := Lib.hid hown
     have K22 := Lib.hid (Kept.trans K21.out hk)
     have BF22 := Lib.hid (FBox.kept BF21.out hk)
     have hs22 := K22.out.size
     clear hown hk
     clear c0 c1 c2 c3 c4 c5 c6
     obtain ⟨c0, c1, c2, c3, c4, c5, c6⟩ := BF22.out.cells
     have ltBF22 := BF22.out.lt
     go_wp2
     go_roundg (gk - 1)
     case measure => exact hgg
     case rel =>
      refine ⟨k2 + 1, by go_num, by omega, ?_, BF22.out, K22.out⟩
      rw [HNX.out]
      have := OM22.out
      simpa only [L_append, L_mkB, List.append_assoc, List.cons_append, List.nil_append] using this
    ·have HFE2 := Lib.hid (show f.ifs.flatMap (fun i => linksN [i]) = F2 by have := HFK2.out; rwa [List.take_of_length_le (by omega)] at this)
     clear HFK2
     go_wp2_with (at_builtin; refine wpList_append_M rfl (.tmp 129) (.tmp 134) 166 rfl rfl (OM20.out.alloc (.cells #[.int .u8 ((f.fds.length : Int))] 5)) _ rfl [byteAt (f.fds.length : Int) 0] (src1 (z := (f.fds.length : Int)) (byteAt_nat (f.fds.length : Int) 0 _ (by omega)) (new1 (by simp))) ?sa9 ?sb9 ?_)
     case sa9 => (simp only [List.length_append, List.length_cons, List.length_nil, L_append, L_mkB, beN_length, linksN_length]; omega)
     case sb9 => simp; omega
     intro v23 w23 hown hk
     have OM23 := Lib.hid hown
     have K23 := Lib.hid (Kept.trans (K20.out.alloc (by first | omega | (simp; omega)) (.cells #[.int .u8 ((f.fds.length : Int))] 5)) hk)
     have BF23 := Lib.hid (FBox.kept (BF20.out.alloc (.cells #[.int .u8 ((f.fds.length : Int))] 5)) hk)
     have hs23 := K23.out.size
     clear hown hk
     clear c0 c1 c2 c3 c4 c5 c6
     obtain ⟨c0, c1, c2, c3, c4, c5, c6⟩ := BF23.out.cells
     have ltBF23 := BF23.out.lt
     obtain ⟨H3, hH3⟩ : ∃ H, H2 ++ (F2 ++ [byteAt (f.fds.length : Int) 0]) = H := ⟨_, rfl⟩
     have OM24 := Lib.hid (show OwnM w23 w.heap.size v23 H3 by rw [← hH3]; exact OM23.out)
     have hl3 : H3.length ≤ 131092000 := by rw [← hH3]; simp only [List.length_append, List.length_cons, List.length_nil]; omega
     have HH3 := Lib.hid hH3
     clear hH3 OM23
     go_wp2
     go_loopg [3, 11] f.fds.length (fun g bv iv wx => ∃ k : Nat, iv = .int .i64 k ∧ k + g = f.fds.length ∧ OwnM wx w.heap.size bv (H3 ++ (f.fds.take k).flatMap headN) ∧ FBox w.heap.size Ap cp Ai ci Af cf Am cm f wx ∧ Kept w.heap.size w wx)
     case atStart => exact ⟨0, rfl, by omega, by simpa using OM24.out, BF23.out, K23.out⟩
     case round =>
      obtain ⟨k3, rfl, hkg, hom, hbf, hkk⟩ := hrel
      obtain ⟨w30, hw30⟩ : ∃ wo, wo = wr := ⟨_, rfl⟩
      subst hw30
      obtain ⟨F3, hF3⟩ : ∃ F, (f.fds.take k3).flatMap headN = F := ⟨_, rfl⟩
      rw [hF3] at hom
      have hFl3 : F3.length ≤ 1000 := by rw [← hF3]; exact take_le headN 5 200 f.fds (fun i _ => by rw [headN_len]; omega) hfl k3
      have HFK3 := Lib.hid hF3
      clear hF3
      have OM30 := Lib.hid hom
      have BF30 := Lib.hid hbf
      have K30 := Lib.hid hkk
      have hs30 := hkk.size
      clear hom hbf hkk c0 c1 c2 c3 c4 c5 c6
      obtain ⟨c0, c1, c2, c3, c4, c5, c6⟩ := BF30.out.cells
      have ltBF30 := BF30.out.lt
      by_cases hlt : k3 < f.fds.length
      ·exact absurd hlt (by have := HFD.out; omega)
      ·have HFE3 := Lib.hid (show f.fds.flatMap headN = F3 by have := HFK3.out; rwa [List.take_of_length_le (by omega)] at this)
       clear HFK3
       go_wp2_with (at_builtin; refine wpList_append_M rfl (.tmp 161) (.tmp 166) 166 rfl rfl (OM30.out.alloc (.cells #[.int .u8 ((f.mts.length : Int))] 5)) _ rfl [byteAt (f.mts.length : Int) 0] (src1 (z := (f.mts.length : Int)) (byteAt_nat (f.mts.length : Int) 0 _ (by omega)) (new1 (by simp))) ?sa11 ?sb11 ?_)
       case sa11 => (simp only [List.length_append, List.length_cons, List.length_nil, L_append, L_mkB, beN_length, linksN_length]; omega)
       case sb11 => simp; omega
       intro v33 w33 hown hk
       have OM33 := Lib.hid hown
       have K33 := Lib.hid (Kept.trans (K30.out.alloc (by first | omega | (simp; omega)) (.cells #[.int .u8 ((f.mts.length : Int))] 5)) hk)
       have BF33 := Lib.hid (FBox.kept (BF30.out.alloc (.cells #[.int .u8 ((f.mts.length : Int))] 5)) hk)
       have hs33 := K33.out.size
       clear hown hk
       clear c0 c1 c2 c3 c4 c5 c6
       obtain ⟨c0, c1, c2, c3, c4, c5, c6⟩ := BF33.out.cells
       have ltBF33 := BF33.out.lt
       obtain ⟨H4, hH4⟩ : ∃ H, H3 ++ (F3 ++ [byteAt (f.mts.length : Int) 0]) = H := ⟨_, rfl⟩
       have OM34 := Lib.hid (show OwnM w33 w.heap.size v33 H4 by rw [← hH4]; exact OM33.out)
       have hl4 : H4.length ≤ 131094000 := by rw [← hH4]; simp only [List.length_append, List.length_cons, List.length_nil]; omega
       have HH4 := Lib.hid hH4
       clear hH4 OM33
       go_wp2
       go_loopg [3, 13] f.mts.length (fun g bv iv wx => ∃ k : Nat, iv = .int .i64 k ∧ k + g = f.mts.length ∧ OwnM wx w.heap.size bv (H4 ++ (f.mts.take k).flatMap methN) ∧ FBox w.heap.size Ap cp Ai ci Af cf Am cm f wx ∧ Kept w.heap.size w wx)
       case atStart => exact ⟨0, rfl, by omega, by simpa using OM34.out, BF33.out, K33.out⟩
       case round =>
        obtain ⟨k4, rfl, hkg, hom, hbf, hkk⟩ := hrel
        obtain ⟨w40, hw40⟩ : ∃ wo, wo = wr := ⟨_, rfl⟩
        subst hw40
        obtain ⟨g4k, hg4k⟩ : ∃ g, g = gk := ⟨_, rfl⟩
        subst hg4k
        obtain ⟨F4, hF4⟩ : ∃ F, (f.mts.take k4).flatMap methN = F := ⟨_, rfl⟩
        rw [hF4] at hom
        have hFl4 : F4.length ≤ 21620000 := by rw [← hF4]; exact take_le methN 108100 200 f.mts (fun m hm => methN_le m (HCD.out m hm)) hml k4
        have HFK4 := Lib.hid hF4
        clear hF4
        have OM40 := Lib.hid hom
        have BF40 := Lib.hid hbf
        have K40 := Lib.hid hkk
        have hs40 := hkk.size
        clear hom hbf hkk c0 c1 c2 c3 c4 c5 c6
        obtain ⟨c0, c1, c2, c3, c4, c5, c6⟩ := BF40.out.cells
        have ltBF40 := BF40.out.lt
        by_cases hlt : k4 < f.mts.length
        ·exact absurd hlt (by have := HMT.out; omega)
        ·have HFE4 := Lib.hid (show f.mts.flatMap methN = F4 by have := HFK4.out; rwa [List.take_of_length_le (by omega)] at this)
         have HFIN := Lib.hid (show R = H4 ++ F4 by
          rw [HF.out, ← HH4.out, ← HH3.out, ← HH2.out, ← HH0.out]
          unfold listN
          rw [HFE.out, HFE2.out, HFE3.out, HFE4.out]
          simp only [List.append_assoc]
          rfl)
         have hcv := string_M OM40.out
         clear HFK4
         go_wp2
         go_ret
         exact ⟨by rw [HFIN.out]; rfl, K40.out.below⟩
end Go.Proofs.YtmaknddlgppinaaGreatDoor
