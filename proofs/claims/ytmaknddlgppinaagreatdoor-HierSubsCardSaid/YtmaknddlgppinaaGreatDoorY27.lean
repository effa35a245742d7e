/-
  CUT and joined from the texts of this seat: Ik Il Ja
-/
import Derived.Test.YtmaknddlgppinaaGreatDoorY26
import Derived.IntWalk
set_option linter.unusedVariables false
set_option linter.unusedSimpArgs false
namespace Go.Proofs.YtmaknddlgppinaaGreatDoor
open Go.RowKit
theorem fcs_named : ∀ {fs : List Fl} {i : Nat} {f : FC}, f ∈ fcs fs i → f.1 = 0 → f.2.name ≠ []
 | [], _, _, h, _ => by cases h
 | g :: fs, i, f, h, h0 => by
  rcases List.mem_cons.1 h with rfl | h
  ·have h1 : (encF g).toNat = 0 := h0
   have := encF_nonneg g
   exact pcOf_name (by omega) _
  ·exact fcs_named h h0
/-- What Open answers. -/
def OpenAns (cs : List PC) (fs : List Fl) (w' : World) (e : Ending) : Prop :=
 (∃ x a, openP cs (fcs fs 0) = .inr (x, a) ∧ e = .returned (.tuple #[.pointer none, .int .i64 ((x : Nat) : Int), .int .i64 ((a : Nat) : Int)])) ∨
 ∃ ds nb mb A cap cl sl S, openP cs (fcs fs 0) = .inl ds ∧ e = .returned (.tuple #[.pointer (some ⟨nb, 0, none⟩), .int .i64 0, .int .i64 0]) ∧ HT w'.heap.size nb mb A cap cs.length ds cl sl S w'
/-- The first loop: j files have been taken. -/
structure O1 (base nb mb : Nat) (cs : List PC) (cl0 : Nat → Nat) (fs : List Fl) (w : World) (j : Nat) (wx : World) : Prop where
 ex : ∃ own cl, Took2 cs fs j own ∧ AT base nb mb cs.length (cs ++ own) cl wx ∧ Lnk base cs.length 0 (cs ++ own) cl wx ∧ ∀ i, i < cs.length → cl i = cl0 i
 below : Below w.heap.size w wx
/-- The second loop: m of the own classes are linked. -/
structure O2 (base nb mb o g cap0 : Nat) (ds : List PC) (cl : Nat → Nat) (w : World) (m : Nat) (wx : World) : Prop where
 at_ : AT base nb mb o ds cl wx
 lnk : Lnk base o m ds cl wx
 t0 : wx.heap[nb]? = some (.cells #[.slice (some ⟨g, 0, none⟩) ds.length cap0, .map (some mb), .int .i64 (o : Int)] 112 (0, 0))
 err : firstE (kindE ds) (ds.drop (o + m)) m = firstE (kindE ds) (ds.drop o) 0
 below : Below base w wx
section
variable {base nb mb o g cap0 m : Nat} {ds : List PC} {cl : Nat → Nat} {w wx w' : World}
theorem AT.cell (hA : AT base nb mb o ds cl wx) (hv : wx.heap[nb]? = some (.cells #[.slice (some ⟨g, 0, none⟩) ds.length cap0, .map (some mb), .int .i64 (o : Int)] 112 (0, 0))) : wx.ownsRow base 108 1 (.slice (some ⟨g, 0, none⟩) ds.length cap0) ds.length (ptrs cl ds.length) ∧ g < wx.heap.size ∧ ∀ i, i < ds.length → wx.cell? ⟨g, i, none⟩ = some (.pointer (some ⟨cl i, 0, none⟩)) := by
 obtain ⟨v, h1, h2⟩ := hA.t0
 rw [hv] at h1
 have hvv : v = .slice (some ⟨g, 0, none⟩) ds.length cap0 := by
  have := congrArg (fun x => match x with | some (Obj.cells y _ _) => y[0]? | _ => none) h1
  simpa using this.symm
 subst hvv
 refine ⟨h2, (h2.lt g rfl).2, fun i hi => ?_⟩
 have := h2.cells (g := g) rfl i _ (ptrs_at cl hi)
 rw [plain_add, Nat.zero_add] at this
 exact this
theorem O2.next (h : O2 base nb mb o g cap0 ds cl w m wx) {c : PC} (hc : ds[o + m]? = some c) {k : KC} (hk : KAt (cl (o + m)) k wx) (hp : k.place = o + m) (hn : Nmd k c) (hrow : OwnS wx base k.ifn c.ifaces) (ha : k.above = .slice none 0 0) (hu : Upd [cl (o + m)] wx w') {v : Value} (hL : LI ds cl (cl (o + m)) k c wx c.ifaces.length v w') (h0 : kindE ds c = 0) : O2 base nb mb o g cap0 ds cl w (m + 1) w' := by
 have hlt := (List.getElem?_eq_some_iff.1 hc).1
 refine ⟨h.at_.upd hk hu, h.lnk.linked hc hk hp hn hrow ha hL h0 h.at_.blt, ?_, ?_, ?_⟩
 ·exact (hu.block nb (lt_of_block h.t0) (by simpa using kat_table hk h.t0)).trans h.t0
 ·have e : (ds.drop o)[m]? = some c := by rw [List.getElem?_drop]; exact hc
  rw [← h.err, show ds.drop (o + (m + 1)) = (ds.drop o).drop (m + 1) by rw [List.drop_drop], show ds.drop (o + m) = (ds.drop o).drop m by rw [List.drop_drop], firstE_next e, if_neg (by simp [h0])]
 ·have hge := h.lnk.low (o + m) (by omega) hlt
  exact ⟨hu.os.trans h.below.os, hu.tape.trans h.below.tape, hu.output.trans h.below.output, Nat.le_trans h.below.size hu.size, fun q hq => (hu.block q (Nat.lt_of_lt_of_le hq h.at_.blt) (by simp; omega)).trans (h.below.block q hq)⟩
end
section
variable {B tb mb cap ow : Nat} {A : Option Addr} {cs : List PC} {cl0 sl : Nat → Nat} {S : Nat → List Nat} {w : World}
set_option maxRecDepth 1000000 in
set_option maxHeartbeats 6400000 in
theorem Open_any (h : HT B tb mb A cap ow cs cl0 sl S w) {Bf : Nat} (fs : List Fl) (v : Value) (hf : FsRow Bf w v fs) (hBf : Bf ≤ w.heap.size) (ht : ∀ f ∈ fs, FileOk f) (hfew : cs.length ≤ 900) :
  Calls Tryz.prog 27 #[.pointer (some ⟨tb, 0, none⟩), v] w fun e w' => OpenAns cs fs w' e ∧ Below w.heap.size w w' := by
 obtain ⟨Af, capf, rfl, hcapf, hmaxf⟩ := hf.form
 have EX := Lib.hid (extended_any h)
 have H := Lib.hid h
 have HF := Lib.hid hf
 have HTX := Lib.hid ht
 clear h hf ht
 by_cases h64 : 64 < fs.length
 ·have HO := Lib.hid (show openP cs (fcs fs 0) = .inr (3, 0) by unfold openP; rw [if_pos (by rw [fcs_length]; exact h64)])
  go_enter Tryz.func27, Tryz.ntmps27
  go_wp2
  refine bodyPost_ret (v := .tuple #[.pointer none, .int .i64 3, .int .i64 0]) (by simp [results, Tryz.results27, go_sem]) rfl ?_
  exact ⟨.inl ⟨3, 0, HO.out, rfl⟩, Below.refl _ _⟩
 ·go_enter Tryz.func27, Tryz.ntmps27
  go_wp2_with fail
  refine EX.out.mono ?_
  rintro e w1 ⟨nb, mb', rfl, hat, hb⟩
  have HAT := Lib.hid hat
  have HB1 := Lib.hid hb
  clear hat hb
  go_wp2
  go_loopg [23] fs.length (fun gk iv wx => ∃ j : Nat, iv = .int .i64 j ∧ j + gk = fs.length ∧ O1 w.heap.size nb mb' cs cl0 fs w j wx)
  case atStart => exact ⟨0, rfl, by omega, ⟨[], cl0, Took2.start cs fs, by rw [List.append_nil]; exact HAT.out, by rw [List.append_nil]; exact Lnk.none _ _ _ _, fun _ _ => rfl⟩, HB1.out⟩
  case round =>
   obtain ⟨j, rfl, hjg, hO⟩ := hrel
   have HO := Lib.hid hO
   have hbs := hO.below.size
   by_cases hj : j < fs.length
   ·have hgg : gk - 1 < gk := by omega
    obtain ⟨own, cl, htk, hat, hlk, hcl⟩ := hO.ex
    obtain ⟨f, hfj⟩ : ∃ f, fs[j]? = some f := ⟨_, List.getElem?_eq_getElem hj⟩
    have hfr := HF.out.keep (w' := wr) (fun p hp => hO.below.cell (p := p) (by omega))
    obtain ⟨bf, of, Ap, cp, Ai, ci, Ah, ch, Am, cm, rfl, hbf, hfi, z0, z1, z2, z3, z4, z5, z6⟩ := hfr.at_ hfj
    have AD := Lib.hid (fun W (hb : Below wr.heap.size wr W) => addFile_any (base := w.heap.size) (hat.below hb) (hlk.below hb) (by simp) f _ ((hfi.at_).below (B' := wr.heap.size) hb (by omega)) hBf (HTX.out f (List.mem_of_getElem? hfj)) (j : Int) (by rw [List.length_append, htk.len]; omega))
    have HTK := Lib.hid htk
    have HAT2 := Lib.hid hat
    have HCL := Lib.hid hcl
    have HFJ := Lib.hid hfj
    have hbl := hat.blt
    clear hO hfr hfi htk hat hlk hcl hfj
    go_wp2_with fail
    refine (AD.out _ (by first | exact (Below.refl _ _).alloc (Nat.le_refl _) _)).mono ?_
    rintro e w2 (⟨h1, rfl, hb2⟩ | ⟨h1, h2, rfl, hb2⟩ | ⟨h1, h2, rfl, cb, hcb, hat2, hlk2, hb2⟩)
    ·obtain ⟨E, hE⟩ : ∃ E, E = encF f := ⟨_, rfl⟩
     rw [← hE]
     have hne : (E == 0) = false := by rw [hE]; simpa using h1
     have HOP := Lib.hid (openP_add (by rw [fcs_length]; omega) (HTK.out.wrong HFJ.out h1))
     have HEE := Lib.hid hE
     have HB2 := Lib.hid hb2
     clear h1 hE hb2
     go_wp2
     refine bodyPost_ret (v := .tuple #[.pointer none, .int .i64 E, .int .i64 (j : Int)]) (by simp [results, Tryz.results27, go_sem]) rfl ?_
     refine ⟨.inl ⟨_, _, HOP.out, ?_⟩, ?_⟩
     ·rw [encF_nat, ← HEE.out]
     ·exact (HO.out.below.alloc hbs _).trans (HB2.out.mono (by simp; omega))
    ·have HOP := Lib.hid (openP_add (by rw [fcs_length]; omega) (HTK.out.twice HFJ.out h1 h2))
     have HB2 := Lib.hid hb2
     clear h1 h2 hb2
     go_wp2
     refine bodyPost_ret (v := .tuple #[.pointer none, .int .i64 15, .int .i64 (j : Int)]) (by simp [results, Tryz.results27, go_sem]) rfl ?_
     refine ⟨.inl ⟨_, _, HOP.out, rfl⟩, ?_⟩
     exact (HO.out.below.alloc hbs _).trans (HB2.out.mono (by simp; omega))
    ·have HTK2 := Lib.hid (HTK.out.next HFJ.out h1 h2)
     have HA3 := Lib.hid hat2
     have HL3 := Lib.hid hlk2
     have HB2 := Lib.hid hb2
     clear h1 h2 hat2 hlk2 hb2
     go_wp2
     go_roundg (gk - 1)
     case measure => exact hgg
     case rel =>
      refine ⟨j + 1, by go_num, by omega, ⟨own ++ [pcOf f j], put2 cl (cs ++ own).length cb, HTK2.out, by rw [← List.append_assoc]; exact HA3.out, by rw [← List.append_assoc]; exact HL3.out, fun i hi => ?_⟩, ?_⟩
      ·rw [put2_ne _ _ (by rw [List.length_append]; omega)]; exact HCL.out i hi
      ·exact (HO.out.below.alloc hbs _).trans HB2.out
   ·obtain rfl : fs.length = j := by omega
    obtain ⟨own, cl, htk, hat, hlk, hcl⟩ := hO.ex
    obtain ⟨ds, hds⟩ : ∃ ds, ds = cs ++ own := ⟨_, rfl⟩
    rw [← hds] at hat hlk
    obtain ⟨v0, t0, town⟩ := hat.t0
    obtain ⟨A0, cap0, rfl⟩ := hown_form town
    have HDS := Lib.hid hds
    have HTK := Lib.hid htk
    have HAT2 := Lib.hid hat
    have HLK := Lib.hid hlk
    have HCL := Lib.hid hcl
    have T0 := Lib.hid t0
    have TOWN := Lib.hid town
    have hbl := hat.blt
    have hnlt := lt_of_block t0
    have c0 : wr.cell? ⟨nb, 0, none⟩ = some (.slice A0 ds.length cap0) := by rw [kcells_of t0]; rfl
    have c2 : wr.cell? ⟨nb, 2, none⟩ = some (.int .i64 (cs.length : Int)) := by rw [kcells_of t0]; rfl
    have hdl : ds.length = cs.length + fs.length := by rw [hds, List.length_append, htk.len]
    have hdc : ds.length ≤ cap0 := by
     rcases town.2 with ⟨e, h0⟩ | ⟨g, c2, cur, e, _, _, h, _⟩
     ·omega
     ·injection e with _ _ e3; omega
    obtain ⟨g, rfl⟩ : ∃ g, A0 = some ⟨g, 0, none⟩ := by
     rcases town.2 with ⟨e, h0⟩ | ⟨g, c2, cur, e, _⟩
     ·have := H.out.good.pos
      omega
     ·injection e with e1 _ _
      exact ⟨g, e1⟩
    have T0S := Lib.hid (show wr.drew.heap[nb]? = some (.cells #[.slice (some ⟨g, 0, none⟩) (cs.length + fs.length) cap0, .map (some mb'), .int .i64 (cs.length : Int)] 112 (0, 0)) by rw [← hdl]; exact t0)
    clear hO hds htk hat hlk hcl town t0
    go_wp2
    go_cut [11] (fun v wx => ∃ q, v = .slice (some ⟨g, q, none⟩) fs.length (cap0 - cs.length) ∧ (0 < fs.length → q = cs.length) ∧ wx = wr.drew)
    case first =>
     go_region
     all_goals (try go_wp2)
     all_goals (go_meet; case rel => first | exact ⟨cs.length, rfl, fun _ => rfl, rfl⟩ | exact ⟨0, by rw [show cap0 - cs.length = 0 by omega], fun hp => absurd hp (by omega), rfl⟩)
    obtain ⟨q, rfl, hq, rfl⟩ := hcut
    have HQ := Lib.hid hq
    clear hq
    go_wp2
    obtain ⟨wo, hwo⟩ : ∃ x, x = wr := ⟨_, rfl⟩
    subst hwo
    obtain ⟨g1, hg1⟩ : ∃ x, x = gk := ⟨_, rfl⟩
    subst hg1
    go_loopg [48] fs.length (fun gk iv wx => ∃ m : Nat, iv = .int .i64 m ∧ m + gk = fs.length ∧ O2 w.heap.size nb mb' cs.length g cap0 ds cl w m wx)
    case atStart => exact ⟨0, rfl, by omega, ⟨HAT2.out.drewN 1, HLK.out.drewN 1, by rw [hdl]; exact T0S.out, rfl, HO.out.below.drew⟩⟩
    case round =>
     obtain ⟨m, rfl, hmg, h2⟩ := hrel
     have H2 := Lib.hid h2
     by_cases hm : m < fs.length
     ·have hgg : gk - 1 < gk := by omega
      obtain ⟨c, hc⟩ : ∃ c, ds[cs.length + m]? = some c := ⟨_, List.getElem?_eq_getElem (by omega)⟩
      obtain ⟨k, k1, k2, k3, k4, k5, _, k7⟩ := h2.lnk.cls _ c (by omega) hc
      obtain ⟨ku, ki⟩ := k7 (Nat.le_refl _)
      obtain ⟨_, hgl, hcells⟩ := h2.at_.cell h2.t0
      have r0 := hcells (cs.length + m) (by omega)
      have hh := H.out.below (h2.below.mono H.out.hB)
      have hq := HQ.out (by omega)
      subst hq
      have hall : ∀ j d, ds[j]? = some d → ∃ kj, KAt (cl j) kj wr ∧ kj.iface = d.iface := fun j d hd => by
       by_cases hjo : j < cs.length
       ·have hd2 : cs[j]? = some d := by rw [HDS.out, get_app hjo] at hd; exact hd
        obtain ⟨kj, e1, e2⟩ := hh.says j d hd2
        exact ⟨kj, by rw [HCL.out j hjo]; exact e1, e2.nmd.ifc⟩
       ·obtain ⟨kj, e1, _, e3, _⟩ := h2.lnk.cls j d (by omega) hd
        exact ⟨kj, e1, e3.ifc⟩
      have LK := Lib.hid (linkUp_any h2.t0 h2.at_.map k1 c k3 k4 ki k3.few hall)
      have HC := Lib.hid hc
      have K1 := Lib.hid k1
      have K2 := Lib.hid k2
      have K3 := Lib.hid k3
      have K4 := Lib.hid k4
      have K5 := Lib.hid k5
      clear h2 hc k1 k2 k3 k4 k5 k7 ku ki hcells hh hall
      go_wp2_with fail
      refine LK.out.mono ?_
      rintro e w2 ⟨rfl, hu, hli⟩
      obtain ⟨E, hE⟩ : ∃ E : Nat, E = kindE ds c := ⟨_, rfl⟩
      rw [← hE]
      have HE := Lib.hid hE
      have HU := Lib.hid hu
      have HLI := Lib.hid hli
      clear hE hu hli
      by_cases hz : E = 0
      ·have HZ := Lib.hid (show kindE ds c = 0 by rw [← HE.out]; exact hz)
       subst hz
       go_wp2
       go_roundg (gk - 1)
       case measure => exact hgg
       case rel =>
        obtain ⟨u, hu⟩ := HLI.out HZ.out
        exact ⟨m + 1, by go_num, by omega, H2.out.next HC.out K1.out K2.out K3.out K4.out K5.out HU.out hu HZ.out⟩
      ·have hne : (((E : Nat) : Int) == 0) = false := by simpa using hz
       have HZ := Lib.hid (show kindE ds c ≠ 0 by rw [← HE.out]; exact hz)
       clear hz
       go_wp2
       refine bodyPost_ret (v := .tuple #[.pointer none, .int .i64 ((E : Nat) : Int), .int .i64 (m : Int)]) (by simp [results, Tryz.results27, go_sem]) rfl ?_
       have hff : firstE (kindE ds) (ds.drop cs.length) 0 = some (kindE ds c, m) := by
        have e : (ds.drop cs.length)[m]? = some c := by rw [List.getElem?_drop]; exact HC.out
        rw [← H2.out.err, show ds.drop (cs.length + m) = (ds.drop cs.length).drop m by rw [List.drop_drop], firstE_next e, if_pos HZ.out]
       refine ⟨.inl ⟨_, _, openP_kind (by rw [fcs_length]; omega) (by rw [HDS.out]; exact HTK.out.ends) hff, by rw [HE.out]⟩, ?_⟩
       have hge := H2.out.lnk.low (cs.length + m) (by omega) (List.getElem?_eq_some_iff.1 HC.out).1
       have u := HU.out
       have bl := H2.out.below
       exact ⟨u.os.trans bl.os, u.tape.trans bl.tape, u.output.trans bl.output, Nat.le_trans bl.size u.size, fun q hq => (u.block q (Nat.lt_of_lt_of_le hq H2.out.at_.blt) (by simp; omega)).trans (bl.block q hq)⟩
     ·obtain rfl : fs.length = m := by omega
      have hww := h2.at_.blt
      have hb2 := h2.at_
      obtain ⟨hrow, hgl, hcells⟩ := h2.at_.cell h2.t0
      have c0 : wr.cell? ⟨nb, 0, none⟩ = some (.slice (some ⟨g, 0, none⟩) ds.length cap0) := by rw [kcells_of h2.t0]; rfl
      have hh := H.out.below (h2.below.mono H.out.hB)
      have hH := half_of hh H.out.hB h2.at_ h2.lnk HDS.out HTK.out.len HTK.out.named HCL.out
      have hkown : ∀ i, cs.length ≤ i → i < ds.length → ∃ k, KAt (cl i) k wr := fun i h1 h3 => by
       obtain ⟨k, hk, _⟩ := h2.lnk.cls i _ h1 (List.getElem?_eq_getElem h3)
       exact ⟨k, hk⟩
      have hoc : OwnC cs.length fs.length ds.length cl (some ⟨g, q, none⟩) wr := ownc_of h2.at_ hkown hdl h2.t0 (fun g' hg hp => by
       rw [HQ.out hp]
       injection hg with hg
       injection hg with hg _ _
       rw [hg])
      have hexo : ∀ i, i < cs.length → i < ds.length → ∀ k, bit (S i) k = true ↔ Abv ds i k := fun i hi _ k => by
       rw [HDS.out, abv_app H.out.good HTK.out.named hi]
       exact H.out.exact i hi k
      have FA := fillAbove_any (cs := ds) hH rfl hdl.symm (show fs.length ≤ cap0 - cs.length by omega) hoc (Nat.le_refl _) (fun x j hx => dir_up hx) hexo
      rw [hdl, Int.natCast_add] at FA
      have FA2 := Lib.hid FA
      have HH := Lib.hid hh
      have H2 := Lib.hid h2
      have HOC := Lib.hid hoc
      clear h2 hb2 hrow hh hH hkown hoc hexo FA
      go_wp2_with fail
      refine FA2.out.mono ?_
      rintro e w4 ⟨rfl, sl', S', hT, hex, hF, hNm⟩
      rw [← hdl] at hT hex hF hNm
      obtain ⟨xs, hxs⟩ : ∃ xs : List Value, xs = (List.range fs.length).map fun j => .pointer (some ⟨cl (cs.length + j), 0, none⟩) := ⟨_, rfl⟩
      have hrow : Row w4.heap.size 1 w4 (.slice (some ⟨g, q, none⟩) fs.length (cap0 - cs.length)) fs.length xs := by
       refine ⟨_, _, rfl, by omega, hmaxf, by rw [hxs]; simp, fun hp => ⟨g, q, rfl, Nat.lt_of_lt_of_le hgl hF.size, fun j u hu => ?_⟩⟩
       rw [hxs] at hu
       have hj : j < fs.length := by
        have := (List.getElem?_eq_some_iff.1 hu).1
        simpa using this
       rw [List.getElem?_map, List.getElem?_range hj] at hu
       simp only [Option.map_some, Option.some.injEq] at hu
       obtain ⟨b, o', e1, _, e2⟩ := HOC.out.fr hF hj
       injection e1 with e1
       injection e1 with e3 e4 _
       rw [← hu, e3, e4]
       exact e2
      have IX := Lib.hid (indexFunc83 (g := fun j => bit (S' (cs.length + j)) (cs.length + j)) hrow (fun j x hx m => by
       rw [hxs] at hx
       have hj : j < fs.length := by
        have := (List.getElem?_eq_some_iff.1 hx).1
        simpa using this
       rw [List.getElem?_map, List.getElem?_range hj] at hx
       simp only [Option.map_some, Option.some.injEq] at hx
       have T := hT.drewN m
       obtain ⟨k, k1, k2, _, _, k5⟩ := T.cls (cs.length + j) (by omega)
       have := inCycle_any k1 k5 (T.sets (cs.length + j) (by omega)) (by rw [k2]; have := T.few; omega)
       rw [k2] at this
       rw [← hx]
       refine this.mono ?_
       rintro e w5 ⟨rfl, m', rfl⟩
       exact ⟨rfl, m + m', World.drewN_drewN _ _ _⟩))
      have HT4 := Lib.hid hT
      have HEX := Lib.hid hex
      have HF4 := Lib.hid hF
      have HNM := Lib.hid hNm
      clear hT hex hF hNm hrow hxs
      go_wp2_with fail
      refine IX.out.mono ?_
      rintro e w5 ⟨r, rfl, hr, m, rfl⟩
      have hff : firstE (kindE ds) (ds.drop cs.length) 0 = none := by
       rw [← H2.out.err, List.drop_eq_nil_of_le (by omega)]
       rfl
      have HADD := Lib.hid (show addP cs (fcs fs 0) 0 = .inl ds by rw [HDS.out]; exact HTK.out.ends)
      have HFF := Lib.hid hff
      have HBEL := Lib.hid (show Below w.heap.size w (w4.drewN m) from hbelow_drewN (H2.out.below.trans (HF4.out.below (fun i h1 h2 => H2.out.lnk.low i h1 h2) hww)) m)
      rcases hr with ⟨r', rfl, hr1, hr2, hr3⟩ | ⟨rfl, hr2⟩
      ·have hab : Abv ds (cs.length + r') (cs.length + r') := (HEX.out _ (by omega) _).1 hr2
       have HRR := Lib.hid (firstR_some_of ds cs.length fs.length 0 r' (by omega) (by omega) hab (fun j _ hj ha => by
        have h1 : bit (S' (cs.length + j)) (cs.length + j) = false := hr3 j hj
        have h2 := (HEX.out (cs.length + j) (by omega) (cs.length + j)).2 ha
        rw [h2] at h1
        cases h1))
       clear hr2 hr3 hab hff
       go_wp2
       refine bodyPost_ret (v := .tuple #[.pointer none, .int .i64 16, .int .i64 ((r' : Nat) : Int)]) (by simp [results, Tryz.results27, go_sem]) rfl ?_
       exact ⟨.inl ⟨16, r', openP_round (by rw [fcs_length]; omega) HADD.out HFF.out (by rw [fcs_length]; exact HRR.out), rfl⟩, HBEL.out⟩
      ·have hrr : firstR ds cs.length fs.length 0 = none := firstR_none_of ds cs.length fs.length 0 (fun j _ hj ha => by
        have h1 : bit (S' (cs.length + j)) (cs.length + j) = false := hr2 j (by omega)
        have h2 := (HEX.out (cs.length + j) (by omega) (cs.length + j)).2 ha
        rw [h2] at h1
        cases h1)
       have hop := openP_done (cs := cs) (fs := fcs fs 0) (by rw [fcs_length]; omega) HADD.out HFF.out (by rw [fcs_length]; exact hrr)
       have hgood : Good ds := (openP_good H.out.good (fun f hf hf0 => fcs_named hf hf0) hop).1
       have HOP := Lib.hid hop
       obtain ⟨A4, cap4, hht⟩ := ht_of HH.out H.out.hB H2.out.at_ H2.out.lnk HDS.out HTK.out.len HTK.out.named HCL.out HT4.out HEX.out HF4.out HNM.out hgood
       have HHT := Lib.hid hht
       clear hr2 hff hrr hop hgood hht
       go_wp2
       refine bodyPost_ret (v := .tuple #[.pointer (some ⟨nb, 0, none⟩), .int .i64 0, .int .i64 0]) (by simp [results, Tryz.results27, go_sem]) rfl ?_
       exact ⟨.inr ⟨ds, nb, mb', A4, cap4, cl, sl', S', HOP.out, rfl, HHT.out.below (hbelow_drewN (Below.refl _ _) m)⟩, HBEL.out⟩
end
set_option maxRecDepth 1000000 in
set_option maxHeartbeats 6400000 in
theorem New_any {w : World} (hN : Blt w) {Bf : Nat} (fs : List Fl) (v : Value) (hf : FsRow Bf w v fs) (hBf : Bf ≤ w.heap.size) (ht : ∀ f ∈ fs, FileOk f) :
  Calls Tryz.prog 18 #[v] w fun e w' => OpenAns builtP fs w' e ∧ Below w.heap.size w w' := by
 obtain ⟨Af, capf, rfl, hcapf, hmaxf⟩ := hf.form
 have BT := Lib.hid (builtinTable_any hN)
 have HF := Lib.hid hf
 have HTX := Lib.hid ht
 clear hN hf ht
 go_enter Tryz.func18, Tryz.ntmps18
 go_wp2_with fail
 refine BT.out.mono ?_
 rintro e w1 ⟨tb, mb, A, cap, cl, sl, S, rfl, hT, hb⟩
 have OP := Lib.hid (Open_any hT fs _ (HF.out.keep fun p hp => hb.cell (p := p) (by omega)) (Nat.le_trans hBf hb.size) HTX.out (by decide))
 have HB := Lib.hid hb
 clear hT hb
 go_wp2_with fail
 refine OP.out.mono ?_
 rintro e w2 ⟨hans, hb2⟩
 have HB2 := Lib.hid (HB.out.trans (hb2.mono HB.out.size))
 clear hb2
 rcases hans with ⟨x, a, h1, rfl⟩ | ⟨ds, nb, mb', A', cap', cl', sl', S', h1, rfl, h2⟩
 ·have H1 := Lib.hid h1
  clear h1
  go_wp2
  refine bodyPost_ret (v := .tuple #[.pointer none, .int .i64 ((x : Nat) : Int), .int .i64 ((a : Nat) : Int)]) (by simp [results, Tryz.results18, go_sem]) rfl ?_
  exact ⟨.inl ⟨x, a, H1.out, rfl⟩, HB2.out⟩
 ·have H1 := Lib.hid h1
  have H2 := Lib.hid h2
  clear h1 h2
  go_wp2
  refine bodyPost_ret (v := .tuple #[.pointer (some ⟨nb, 0, none⟩), .int .i64 0, .int .i64 0]) (by simp [results, Tryz.results18, go_sem]) rfl ?_
  exact ⟨.inr ⟨ds, nb, mb', A', cap', cl', sl', S', H1.out, rfl, H2.out⟩, HB2.out⟩
/-- Which of n things the number c speaks of. -/
def pickN (c : Int) (n : Nat) : Nat := (if c < 0 then -(c + 1) else c).toNat % n
theorem pickN_lt (c : Int) {n : Nat} (h : 0 < n) : pickN c n < n := Nat.mod_lt _ h
set_option maxRecDepth 1000000 in
set_option maxHeartbeats 1600000 in
theorem pick_any (c : Int) (n : Nat) (w : World) (hc : -9223372036854775808 ≤ c ∧ c ≤ 9223372036854775807) (h0 : 0 < n) (hn : n ≤ 1048576) :
  Calls Tryz.prog 62 #[.int .i64 c, .int .i64 (n : Int)] w fun e w' => e = .returned (.int .i64 (pickN c n : Int)) ∧ w' = w := by
 have hz : ((n : Int) == 0) = false := by rw [beq_eq_false_iff_ne]; omega
 have hz' : ¬ (n : Int) = 0 := by omega
 by_cases h : c < 0
 ·have e1 : pickN c n = (-(c + 1)).toNat % n := by unfold pickN; rw [if_pos h]
  rw [e1]
  have k1 : IntKind.i64.wrap (c + 1) = c + 1 := IntWalk.i64_in _ (by omega)
  have k2 : IntKind.i64.wrap (-(c + 1)) = -(c + 1) := IntWalk.i64_in _ (by omega)
  obtain ⟨m, hm⟩ : ∃ m : Nat, -(c + 1) = m := ⟨(-(c + 1)).toNat, by omega⟩
  rw [hm] at k2 ⊢
  rw [Int.toNat_natCast]
  have hm3 : (m : Int) ≤ 9223372036854775807 := by omega
  have hlt : m % n < n := Nat.mod_lt _ h0
  have k3 : IntKind.i64.wrap ((m : Int).tmod n) = ((m % n : Nat) : Int) := by
   rw [Int.tmod_eq_emod_of_nonneg (by omega), ← Int.natCast_emod, IntWalk.i64_in _ (by omega)]
  go_enter Tryz.func62, Tryz.ntmps62
  go_wp2
  go_ret
  exact ⟨by show Ending.returned (.int .i64 ((m : Int) % n)) = _; rw [Int.natCast_emod], rfl⟩
 ·have e1 : pickN c n = c.toNat % n := by unfold pickN; rw [if_neg h]
  rw [e1]
  obtain ⟨m, rfl⟩ : ∃ m : Nat, c = m := ⟨c.toNat, by omega⟩
  rw [Int.toNat_natCast]
  have hlt : m % n < n := Nat.mod_lt _ h0
  have k3 : IntKind.i64.wrap ((m : Int).tmod n) = ((m % n : Nat) : Int) := by
   rw [Int.tmod_eq_emod_of_nonneg (by omega), ← Int.natCast_emod, IntWalk.i64_in _ (by omega)]
  have h9 : ¬ (m : Int) < 0 := h
  go_enter Tryz.func62, Tryz.ntmps62
  go_wp2
  go_ret
  exact ⟨rfl, rfl⟩
/-- The names that raw numbers speak of. -/
def nmB : List ByteArray := [⟨#[65]⟩, ⟨#[66]⟩, ⟨#[67]⟩, ⟨#[68]⟩, ⟨#[73]⟩, ⟨#[74]⟩, ⟨#[79, 98, 106, 101, 99, 116]⟩, ⟨#[84, 104, 114, 111, 119, 97, 98, 108, 101]⟩, ⟨#[83, 116, 114, 105, 110, 103]⟩, ⟨#[78, 117, 108, 108]⟩, ⟨#[88]⟩]
def nmR (c : Int) : ByteArray := nmB.getD (pickN c 11) ⟨#[]⟩
theorem nmR_at (c : Int) : nmB[pickN c 11]? = some (nmR c) := by
 have h := pickN_lt c (n := 11) (by decide)
 unfold nmR
 have hl : pickN c 11 < nmB.length := h
 rw [List.getElem?_eq_getElem hl]
 simp [hl]
set_option maxRecDepth 1000000 in
set_option maxHeartbeats 1600000 in
theorem name_any (c : Int) (w : World) (hc : -9223372036854775808 ≤ c ∧ c ≤ 9223372036854775807) :
  Calls Tryz.prog 61 #[.int .i64 c] w fun e w' => e = .returned (.string (nmR c)) ∧ Below w.heap.size w w' := by
 have hlt := pickN_lt c (n := 11) (by decide)
 have PK := Lib.hid (fun W => pick_any c 11 W hc (by decide) (by decide))
 obtain ⟨W1, hW1⟩ : ∃ W, W = w.alloc (.cells (nmB.map Value.string).toArray 9) := ⟨_, rfl⟩
 have hcell : W1.cell? ⟨w.heap.size, pickN c 11, none⟩ = some (.string (nmR c)) := by
  rw [hW1]
  have h1 : (w.alloc (.cells (nmB.map Value.string).toArray 9)).heap[w.heap.size]? = some (.cells (nmB.map Value.string).toArray 9 (0, 0)) := hheap_new w _
  rw [kcells_of h1]
  simp [nmR_at c]
 have hbel : Below w.heap.size w W1 := by rw [hW1]; exact (Below.refl _ _).alloc (Nat.le_refl _) _
 generalize nmR c = s at *
 generalize pickN c 11 = k at *
 go_enter Tryz.func61, Tryz.ntmps61
 go_wp2_with fail
 rw [show w.alloc (.cells #[.string ⟨#[65]⟩, .string ⟨#[66]⟩, .string ⟨#[67]⟩, .string ⟨#[68]⟩, .string ⟨#[73]⟩, .string ⟨#[74]⟩, .string ⟨#[79, 98, 106, 101, 99, 116]⟩, .string ⟨#[84, 104, 114, 111, 119, 97, 98, 108, 101]⟩, .string ⟨#[83, 116, 114, 105, 110, 103]⟩, .string ⟨#[78, 117, 108, 108]⟩, .string ⟨#[88]⟩] 9) = W1 from hW1.symm]
 clear hW1
 refine (PK.out _).mono ?_
 rintro e w2 ⟨rfl, hw2⟩
 subst hw2
 go_wp2
 go_ret
 exact ⟨rfl, hbel⟩
end Go.Proofs.YtmaknddlgppinaaGreatDoor
