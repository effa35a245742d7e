/-
  CUT and joined from the texts of this seat: Ik Il Ja Jb Jc Jg Kb
-/
import Derived.Test.YtmaknddlgppinaaGreatDoorZ30
import Derived.Test.YtmaknddlgppinaaGreatDoorZ16
import Derived.Test.YtmaknddlgppinaaGreatDoorZ27
import Derived.Test.YtmaknddlgppinaaGreatDoorZ18
import Derived.IntWalk
import Derived.Deep.QuietTactic
set_option linter.unusedVariables false
set_option linter.unusedSimpArgs false
namespace Go.Proofs.YtmaknddlgppinaaGreatDoor
open Go.RowKit
theorem fcs_named : ∀ {fs : List Fl} {i : Nat} {f : FC}, f ∈ fcs fs i → f.1 = 0 → f.2.name ≠ []
 | [], _, _, h, _ => by cases h
 | g :: fs, i, f, h, h0 => by
  rcases List.mem_cons.1 h with rfl | h
  ·have h1 : (encF g).toNat = 0 := h0
   have := encF_nonneg g
   exact pcOf_name (by omega) _
  ·exact fcs_named h h0
/-- What Open answers. -/
def OpenAns (cs : List PC) (fs : List Fl) (w' : World) (e : Ending) : Prop :=
 (∃ x a, openP cs (fcs fs 0) = .inr (x, a) ∧ e = .returned (.tuple #[.pointer none, .int .i64 ((x : Nat) : Int), .int .i64 ((a : Nat) : Int)])) ∨
 ∃ ds nb mb A cap cl sl S, openP cs (fcs fs 0) = .inl ds ∧ e = .returned (.tuple #[.pointer (some ⟨nb, 0, none⟩), .int .i64 0, .int .i64 0]) ∧ HT w'.heap.size nb mb A cap cs.length ds cl sl S w'
/-- The first loop: j files have been taken. -/
structure O1 (base nb mb : Nat) (cs : List PC) (cl0 : Nat → Nat) (fs : List Fl) (w : World) (j : Nat) (wx : World) : Prop where
 ex : ∃ own cl, Took2 cs fs j own ∧ AT base nb mb cs.length (cs ++ own) cl wx ∧ Lnk base cs.length 0 (cs ++ own) cl wx ∧ ∀ i, i < cs.length → cl i = cl0 i
 below : Below w.heap.size w wx
/-- The second loop: m of the own classes are linked. -/
structure O2 (base nb mb o g cap0 : Nat) (ds : List PC) (cl : Nat → Nat) (w : World) (m : Nat) (wx : World) : Prop where
 at_ : AT base nb mb o ds cl wx
 lnk : Lnk base o m ds cl wx
 t0 : wx.heap[nb]? = some (.cells #[.slice (some ⟨g, 0, none⟩) ds.length cap0, .map (some mb), .int .i64 (o : Int)] 112 (0, 0))
 err : firstE (kindE ds) (ds.drop (o + m)) m = firstE (kindE ds) (ds.drop o) 0
 below : Below base w wx
section
variable {base nb mb o g cap0 m : Nat} {ds : List PC} {cl : Nat → Nat} {w wx w' : World}
theorem AT.cell (hA : AT base nb mb o ds cl wx) (hv : wx.heap[nb]? = some (.cells #[.slice (some ⟨g, 0, none⟩) ds.length cap0, .map (some mb), .int .i64 (o : Int)] 112 (0, 0))) : wx.ownsRow base 108 1 (.slice (some ⟨g, 0, none⟩) ds.length cap0) ds.length (ptrs cl ds.length) ∧ g < wx.heap.size ∧ ∀ i, i < ds.length → wx.cell? ⟨g, i, none⟩ = some (.pointer (some ⟨cl i, 0, none⟩)) := by
 obtain ⟨v, h1, h2⟩ := hA.t0
 rw [hv] at h1
 have hvv : v = .slice (some ⟨g, 0, none⟩) ds.length cap0 := by
  have := congrArg (fun x => match x with | some (Obj.cells y _ _) => y[0]? | _ => none) h1
  simpa using this.symm
 subst hvv
 refine ⟨h2, (h2.lt g rfl).2, fun i hi => ?_⟩
 have := h2.cells (g := g) rfl i _ (ptrs_at cl hi)
 rw [plain_add, Nat.zero_add] at this
 exact this
theorem O2.next (h : O2 base nb mb o g cap0 ds cl w m wx) {c : PC} (hc : ds[o + m]? = some c) {k : KC} (hk : KAt (cl (o + m)) k wx) (hp : k.place = o + m) (hn : Nmd k c) (hrow : OwnS wx base k.ifn c.ifaces) (ha : k.above = .slice none 0 0) (hu : Upd [cl (o + m)] wx w') {v : Value} (hL : LI ds cl (cl (o + m)) k c wx c.ifaces.length v w') (h0 : kindE ds c = 0) : O2 base nb mb o g cap0 ds cl w (m + 1) w' := by
 have hlt := (List.getElem?_eq_some_iff.1 hc).1
 refine ⟨h.at_.upd hk hu, h.lnk.linked hc hk hp hn hrow ha hL h0 h.at_.blt, ?_, ?_, ?_⟩
 ·exact (hu.block nb (lt_of_block h.t0) (by simpa using kat_table hk h.t0)).trans h.t0
 ·have e : (ds.drop o)[m]? = some c := by rw [List.getElem?_drop]; exact hc
  rw [← h.err, show ds.drop (o + (m + 1)) = (ds.drop o).drop (m + 1) by rw [List.drop_drop], show ds.drop (o + m) = (ds.drop o).drop m by rw [List.drop_drop], firstE_next e, if_neg (by simp [h0])]
 ·have hge := h.lnk.low (o + m) (by omega) hlt
  exact ⟨hu.os.trans h.below.os, hu.tape.trans h.below.tape, hu.output.trans h.below.output, Nat.le_trans h.below.size hu.size, fun q hq => (hu.block q (Nat.lt_of_lt_of_le hq h.at_.blt) (by simp; omega)).trans (h.below.block q hq)⟩
end
section
variable {B tb mb cap ow : Nat} {A : Option Addr} {cs : List PC} {cl0 sl : Nat → Nat} {S : Nat → List Nat} {w : World}
set_option maxRecDepth 1000000 in
set_option maxHeartbeats 6400000 in
theorem Open_any (h : HT B tb mb A cap ow cs cl0 sl S w) {Bf : Nat} (fs : List Fl) (v : Value) (hf : FsRow Bf w v fs) (hBf : Bf ≤ w.heap.size) (ht : ∀ f ∈ fs, FileOk f) (hfew : cs.length ≤ 900) :
  Calls Tryz.prog 27 #[.pointer (some ⟨tb, 0, none⟩), v] w fun e w' => OpenAns cs fs w' e ∧ Below w.heap.size w w' := by
 obtain ⟨Af, capf, rfl, hcapf, hmaxf⟩ := hf.form
 have EX := Lib.hid (extended_any h)
 have H := Lib.hid h
 have HF := Lib.hid hf
 have HTX := Lib.hid ht
 clear h hf ht
 by_cases h64 : 64 < fs.length
 ·have HO := Lib.hid (show openP cs (fcs fs 0) = .inr (3, 0) by unfold openP; rw [if_pos (by rw [fcs_length]; exact h64)])
  go_enter Tryz.func27, Tryz.ntmps27
  go_wp2
  refine bodyPost_ret (v := .tuple #[.pointer none, .int .i64 3, .int .i64 0]) (by simp [results, Tryz.results27, go_sem]) rfl ?_
  exact ⟨.inl ⟨3, 0, HO.out, rfl⟩, Below.refl _ _⟩
 ·go_enter Tryz.func27, Tryz.ntmps27
  go_wp2_with fail
  refine EX.out.mono ?_
  rintro e w1 ⟨nb, mb', rfl, hat, hb⟩
  have HAT := Lib.hid hat
  have HB1 := Lib.hid hb
  clear hat hb
  go_wp2
  go_loopg [23] fs.length (fun gk iv wx => ∃ j : Nat, iv = .int .i64 j ∧ j + gk = fs.length ∧ O1 w.heap.size nb mb' cs cl0 fs w j wx)
  case atStart => exact ⟨0, rfl, by omega, ⟨[], cl0, Took2.start cs fs, by rw [List.append_nil]; exact HAT.out, by rw [List.append_nil]; exact Lnk.none _ _ _ _, fun _ _ => rfl⟩, HB1.out⟩
  case round =>
   obtain ⟨j, rfl, hjg, hO⟩ := hrel
   have HO := Lib.hid hO
   have hbs := hO.below.size
   by_cases hj : j < fs.length
   ·have hgg : gk - 1 < gk := by omega
    obtain ⟨own, cl, htk, hat, hlk, hcl⟩ := hO.ex
    obtain ⟨f, hfj⟩ : ∃ f, fs[j]? = some f := ⟨_, List.getElem?_eq_getElem hj⟩
    have hfr := HF.out.keep (w' := wr) (fun p hp => hO.below.cell (p := p) (by omega))
    obtain ⟨bf, of, Ap, cp, Ai, ci, Ah, ch, Am, cm, rfl, hbf, hfi, z0, z1, z2, z3, z4, z5, z6⟩ := hfr.at_ hfj
    have AD := Lib.hid (fun W (hb : Below wr.heap.size wr W) => addFile_any (base := w.heap.size) (hat.below hb) (hlk.below hb) (by simp) f _ ((hfi.at_).below (B' := wr.heap.size) hb (by omega)) hBf (HTX.out f (List.mem_of_getElem? hfj)) (j : Int) (by rw [List.length_append, htk.len]; omega))
    have HTK := Lib.hid htk
    have HAT2 := Lib.hid hat
    have HCL := Lib.hid hcl
    have HFJ := Lib.hid hfj
    have hbl := hat.blt
    clear hO hfr hfi htk hat hlk hcl hfj
    go_wp2_with fail
    refine (AD.out _ (by first | exact (Below.refl _ _).alloc (Nat.le_refl _) _)).mono ?_
    rintro e w2 (⟨h1, rfl, hb2⟩ | ⟨h1, h2, rfl, hb2⟩ | ⟨h1, h2, rfl, cb, hcb, hat2, hlk2, hb2⟩)
    ·obtain ⟨E, hE⟩ : ∃ E, E = encF f := ⟨_, rfl⟩
     rw [← hE]
     have hne : (E == 0) = false := by rw [hE]; simpa using h1
     have HOP := Lib.hid (openP_add (by rw [fcs_length]; omega) (HTK.out.wrong HFJ.out h1))
     have HEE := Lib.hid hE
     have HB2 := Lib.hid hb2
     clear h1 hE hb2
     go_wp2
     refine bodyPost_ret (v := .tuple #[.pointer none, .int .i64 E, .int .i64 (j : Int)]) (by simp [results, Tryz.results27, go_sem]) rfl ?_
     refine ⟨.inl ⟨_, _, HOP.out, ?_⟩, ?_⟩
     ·rw [encF_nat, ← HEE.out]
     ·exact (HO.out.below.alloc hbs _).trans (HB2.out.mono (by simp; omega))
    ·have HOP := Lib.hid (openP_add (by rw [fcs_length]; omega) (HTK.out.twice HFJ.out h1 h2))
     have HB2 := Lib.hid hb2
     clear h1 h2 hb2
     go_wp2
     refine bodyPost_ret (v := .tuple #[.pointer none, .int .i64 15, .int .i64 (j : Int)]) (by simp [results, Tryz.results27, go_sem]) rfl ?_
     refine ⟨.inl ⟨_, _, HOP.out, rfl⟩, ?_⟩
     exact (HO.out.below.alloc hbs _).trans (HB2.out.mono (by simp; omega))
    ·have HTK2 := Lib.hid (HTK.out.next HFJ.out h1 h2)
     have HA3 := Lib.hid hat2
     have HL3 := Lib.hid hlk2
     have HB2 := Lib.hid hb2
     clear h1 h2 hat2 hlk2 hb2
     go_wp2
     go_roundg (gk - 1)
     case measure => exact hgg
     case rel =>
      refine ⟨j + 1, by go_num, by omega, ⟨own ++ [pcOf f j], put2 cl (cs ++ own).length cb, HTK2.out, by rw [← List.append_assoc]; exact HA3.out, by rw [← List.append_assoc]; exact HL3.out, fun i hi => ?_⟩, ?_⟩
      ·rw [put2_ne _ _ (by rw [List.length_append]; omega)]; exact HCL.out i hi
      ·exact (HO.out.below.alloc hbs _).trans HB2.out
   ·obtain rfl : fs.length = j := by omega
    obtain ⟨own, cl, htk, hat, hlk, hcl⟩ := hO.ex
    obtain ⟨ds, hds⟩ : ∃ ds, ds = cs ++ own := ⟨_, rfl⟩
    rw [← hds] at hat hlk
    obtain ⟨v0, t0, town⟩ := hat.t0
    obtain ⟨A0, cap0, rfl⟩ := hown_form town
    have HDS := Lib.hid hds
    have HTK := Lib.hid htk
    have HAT2 := Lib.hid hat
    have HLK := Lib.hid hlk
    have HCL := Lib.hid hcl
    have T0 := Lib.hid t0
    have TOWN := Lib.hid town
    have hbl := hat.blt
    have hnlt := lt_of_block t0
    have c0 : wr.cell? ⟨nb, 0, none⟩ = some (.slice A0 ds.length cap0) := by rw [kcells_of t0]; rfl
    have c2 : wr.cell? ⟨nb, 2, none⟩ = some (.int .i64 (cs.length : Int)) := by rw [kcells_of t0]; rfl
    have hdl : ds.length = cs.length + fs.length := by rw [hds, List.length_append, htk.len]
    have hdc : ds.length ≤ cap0 := by
     rcases town.2 with ⟨e, h0⟩ | ⟨g, c2, cur, e, _, _, h, _⟩
     ·omega
     ·injection e with _ _ e3; omega
    obtain ⟨g, rfl⟩ : ∃ g, A0 = some ⟨g, 0, none⟩ := by
     rcases town.2 with ⟨e, h0⟩ | ⟨g, c2, cur, e, _⟩
     ·have := H.out.good.pos
      omega
     ·injection e with e1 _ _
      exact ⟨g, e1⟩
    have T0S := Lib.hid (show wr.drew.heap[nb]? = some (.cells #[.slice (some ⟨g, 0, none⟩) (cs.length + fs.length) cap0, .map (some mb'), .int .i64 (cs.length : Int)] 112 (0, 0)) by rw [← hdl]; exact t0)
    clear hO hds htk hat hlk hcl town t0
    go_wp2
    go_cut [11] (fun v wx => ∃ q, v = .slice (some ⟨g, q, none⟩) fs.length (cap0 - cs.length) ∧ (0 < fs.length → q = cs.length) ∧ wx = wr.drew)
    case first =>
     go_region
     all_goals (try go_wp2)
     all_goals (go_meet; case rel => first | exact ⟨cs.length, rfl, fun _ => rfl, rfl⟩ | exact ⟨0, by rw [show cap0 - cs.length = 0 by omega], fun hp => absurd hp (by omega), rfl⟩)
    obtain ⟨q, rfl, hq, rfl⟩ := hcut
    have HQ := Lib.hid hq
    clear hq
    go_wp2
    obtain ⟨wo, hwo⟩ : ∃ x, x = wr := ⟨_, rfl⟩
    subst hwo
    obtain ⟨g1, hg1⟩ : ∃ x, x = gk := ⟨_, rfl⟩
    subst hg1
    go_loopg [48] fs.length (fun gk iv wx => ∃ m : Nat, iv = .int .i64 m ∧ m + gk = fs.length ∧ O2 w.heap.size nb mb' cs.length g cap0 ds cl w m wx)
    case atStart => exact ⟨0, rfl, by omega, ⟨HAT2.out.drewN 1, HLK.out.drewN 1, by rw [hdl]; exact T0S.out, rfl, HO.out.below.drew⟩⟩
    case round =>
     obtain ⟨m, rfl, hmg, h2⟩ := hrel
     have H2 := Lib.hid h2
     by_cases hm : m < fs.length
     ·have hgg : gk - 1 < gk := by omega
      obtain ⟨c, hc⟩ : ∃ c, ds[cs.length + m]? = some c := ⟨_, List.getElem?_eq_getElem (by omega)⟩
      obtain ⟨k, k1, k2, k3, k4, k5, _, k7⟩ := h2.lnk.cls _ c (by omega) hc
      obtain ⟨ku, ki⟩ := k7 (Nat.le_refl _)
      obtain ⟨_, hgl, hcells⟩ := h2.at_.cell h2.t0
      have r0 := hcells (cs.length + m) (by omega)
      have hh := H.out.below (h2.below.mono H.out.hB)
      have hq := HQ.out (by omega)
      subst hq
      have hall : ∀ j d, ds[j]? = some d → ∃ kj, KAt (cl j) kj wr ∧ kj.iface = d.iface := fun j d hd => by
       by_cases hjo : j < cs.length
       ·have hd2 : cs[j]? = some d := by rw [HDS.out, get_app hjo] at hd; exact hd
        obtain ⟨kj, e1, e2⟩ := hh.says j d hd2
        exact ⟨kj, by rw [HCL.out j hjo]; exact e1, e2.nmd.ifc⟩
       ·obtain ⟨kj, e1, _, e3, _⟩ := h2.lnk.cls j d (by omega) hd
        exact ⟨kj, e1, e3.ifc⟩
      have LK := Lib.hid (linkUp_any h2.t0 h2.at_.map k1 c k3 k4 ki k3.few hall)
      have HC := Lib.hid hc
      have K1 := Lib.hid k1
      have K2 := Lib.hid k2
      have K3 := Lib.hid k3
      have K4 := Lib.hid k4
      have K5 := Lib.hid k5
      clear h2 hc k1 k2 k3 k4 k5 k7 ku ki hcells hh hall
      go_wp2_with fail
      refine LK.out.mono ?_
      rintro e w2 ⟨rfl, hu, hli⟩
      obtain ⟨E, hE⟩ : ∃ E : Nat, E = kindE ds c := ⟨_, rfl⟩
      rw [← hE]
      have HE := Lib.hid hE
      have HU := Lib.hid hu
      have HLI := Lib.hid hli
      clear hE hu hli
      by_cases hz : E = 0
      ·have HZ := Lib.hid (show kindE ds c = 0 by rw [← HE.out]; exact hz)
       subst hz
       go_wp2
       go_roundg (gk - 1)
       case measure => exact hgg
       case rel =>
        obtain ⟨u, hu⟩ := HLI.out HZ.out
        exact ⟨m + 1, by go_num, by omega, H2.out.next HC.out K1.out K2.out K3.out K4.out K5.out HU.out hu HZ.out⟩
      ·have hne : (((E : Nat) : Int) == 0) = false := by simpa using hz
       have HZ := Lib.hid (show kindE ds c ≠ 0 by rw [← HE.out]; exact hz)
       clear hz
       go_wp2
       refine bodyPost_ret (v := .tuple #[.pointer none, .int .i64 ((E : Nat) : Int), .int .i64 (m : Int)]) (by simp [results, Tryz.results27, go_sem]) rfl ?_
       have hff : firstE (kindE ds) (ds.drop cs.length) 0 = some (kindE ds c, m) := by
        have e : (ds.drop cs.length)[m]? = some c := by rw [List.getElem?_drop]; exact HC.out
        rw [← H2.out.err, show ds.drop (cs.length + m) = (ds.drop cs.length).drop m by rw [List.drop_drop], firstE_next e, if_pos HZ.out]
       refine ⟨.inl ⟨_, _, openP_kind (by rw [fcs_length]; omega) (by rw [HDS.out]; exact HTK.out.ends) hff, by rw [HE.out]⟩, ?_⟩
       have hge := H2.out.lnk.low (cs.length + m) (by omega) (List.getElem?_eq_some_iff.1 HC.out).1
       have u := HU.out
       have bl := H2.out.below
       exact ⟨u.os.trans bl.os, u.tape.trans bl.tape, u.output.trans bl.output, Nat.le_trans bl.size u.size, fun q hq => (u.block q (Nat.lt_of_lt_of_le hq H2.out.at_.blt) (by simp; omega)).trans (bl.block q hq)⟩
     ·obtain rfl : fs.length = m := by omega
      have hww := h2.at_.blt
      have hb2 := h2.at_
      obtain ⟨hrow, hgl, hcells⟩ := h2.at_.cell h2.t0
      have c0 : wr.cell? ⟨nb, 0, none⟩ = some (.slice (some ⟨g, 0, none⟩) ds.length cap0) := by rw [kcells_of h2.t0]; rfl
      have hh := H.out.below (h2.below.mono H.out.hB)
      have hH := half_of hh H.out.hB h2.at_ h2.lnk HDS.out HTK.out.len HTK.out.named HCL.out
      have hkown : ∀ i, cs.length ≤ i → i < ds.length → ∃ k, KAt (cl i) k wr := fun i h1 h3 => by
       obtain ⟨k, hk, _⟩ := h2.lnk.cls i _ h1 (List.getElem?_eq_getElem h3)
       exact ⟨k, hk⟩
      have hoc : OwnC cs.length fs.length ds.length cl (some ⟨g, q, none⟩) wr := ownc_of h2.at_ hkown hdl h2.t0 (fun g' hg hp => by
       rw [HQ.out hp]
       injection hg with hg
       injection hg with hg _ _
       rw [hg])
      have hexo : ∀ i, i < cs.length → i < ds.length → ∀ k, bit (S i) k = true ↔ Abv ds i k := fun i hi _ k => by
       rw [HDS.out, abv_app H.out.good HTK.out.named hi]
       exact H.out.exact i hi k
      have FA := fillAbove_any (cs := ds) hH rfl hdl.symm (show fs.length ≤ cap0 - cs.length by omega) hoc (Nat.le_refl _) (fun x j hx => dir_up hx) hexo
      rw [hdl, Int.natCast_add] at FA
      have FA2 := Lib.hid FA
      have HH := Lib.hid hh
      have H2 := Lib.hid h2
      have HOC := Lib.hid hoc
      clear h2 hb2 hrow hh hH hkown hoc hexo FA
      go_wp2_with fail
      refine FA2.out.mono ?_
      rintro e w4 ⟨rfl, sl', S', hT, hex, hF, hNm⟩
      rw [← hdl] at hT hex hF hNm
      obtain ⟨xs, hxs⟩ : ∃ xs : List Value, xs = (List.range fs.length).map fun j => .pointer (some ⟨cl (cs.length + j), 0, none⟩) := ⟨_, rfl⟩
      have hrow : Row w4.heap.size 1 w4 (.slice (some ⟨g, q, none⟩) fs.length (cap0 - cs.length)) fs.length xs := by
       refine ⟨_, _, rfl, by omega, hmaxf, by rw [hxs]; simp, fun hp => ⟨g, q, rfl, Nat.lt_of_lt_of_le hgl hF.size, fun j u hu => ?_⟩⟩
       rw [hxs] at hu
       have hj : j < fs.length := by
        have := (List.getElem?_eq_some_iff.1 hu).1
        simpa using this
       rw [List.getElem?_map, List.getElem?_range hj] at hu
       simp only [Option.map_some, Option.some.injEq] at hu
       obtain ⟨b, o', e1, _, e2⟩ := HOC.out.fr hF hj
       injection e1 with e1
       injection e1 with e3 e4 _
       rw [← hu, e3, e4]
       exact e2
      have IX := Lib.hid (indexFunc83 (g := fun j => bit (S' (cs.length + j)) (cs.length + j)) hrow (fun j x hx m => by
       rw [hxs] at hx
       have hj : j < fs.length := by
        have := (List.getElem?_eq_some_iff.1 hx).1
        simpa using this
       rw [List.getElem?_map, List.getElem?_range hj] at hx
       simp only [Option.map_some, Option.some.injEq] at hx
       have T := hT.drewN m
       obtain ⟨k, k1, k2, _, _, k5⟩ := T.cls (cs.length + j) (by omega)
       have := inCycle_any k1 k5 (T.sets (cs.length + j) (by omega)) (by rw [k2]; have := T.few; omega)
       rw [k2] at this
       rw [← hx]
       refine this.mono ?_
       rintro e w5 ⟨rfl, m', rfl⟩
       exact ⟨rfl, m + m', World.drewN_drewN _ _ _⟩))
      have HT4 := Lib.hid hT
      have HEX := Lib.hid hex
      have HF4 := Lib.hid hF
      have HNM := Lib.hid hNm
      clear hT hex hF hNm hrow hxs
      go_wp2_with fail
      refine IX.out.mono ?_
      rintro e w5 ⟨r, rfl, hr, m, rfl⟩
      have hff : firstE (kindE ds) (ds.drop cs.length) 0 = none := by
       rw [← H2.out.err, List.drop_eq_nil_of_le (by omega)]
       rfl
      have HADD := Lib.hid (show addP cs (fcs fs 0) 0 = .inl ds by rw [HDS.out]; exact HTK.out.ends)
      have HFF := Lib.hid hff
      have HBEL := Lib.hid (show Below w.heap.size w (w4.drewN m) from hbelow_drewN (H2.out.below.trans (HF4.out.below (fun i h1 h2 => H2.out.lnk.low i h1 h2) hww)) m)
      rcases hr with ⟨r', rfl, hr1, hr2, hr3⟩ | ⟨rfl, hr2⟩
      ·have hab : Abv ds (cs.length + r') (cs.length + r') := (HEX.out _ (by omega) _).1 hr2
       have HRR := Lib.hid (firstR_some_of ds cs.length fs.length 0 r' (by omega) (by omega) hab (fun j _ hj ha => by
        have h1 : bit (S' (cs.length + j)) (cs.length + j) = false := hr3 j hj
        have h2 := (HEX.out (cs.length + j) (by omega) (cs.length + j)).2 ha
        rw [h2] at h1
        cases h1))
       clear hr2 hr3 hab hff
       go_wp2
       refine bodyPost_ret (v := .tuple #[.pointer none, .int .i64 16, .int .i64 ((r' : Nat) : Int)]) (by simp [results, Tryz.results27, go_sem]) rfl ?_
       exact ⟨.inl ⟨16, r', openP_round (by rw [fcs_length]; omega) HADD.out HFF.out (by rw [fcs_length]; exact HRR.out), rfl⟩, HBEL.out⟩
      ·have hrr : firstR ds cs.length fs.length 0 = none := firstR_none_of ds cs.length fs.length 0 (fun j _ hj ha => by
        have h1 : bit (S' (cs.length + j)) (cs.length + j) = false := hr2 j (by omega)
        have h2 := (HEX.out (cs.length + j) (by omega) (cs.length + j)).2 ha
        rw [h2] at h1
        cases h1)
       have hop := openP_done (cs := cs) (fs := fcs fs 0) (by rw [fcs_length]; omega) HADD.out HFF.out (by rw [fcs_length]; exact hrr)
       have hgood : Good ds := (openP_good H.out.good (fun f hf hf0 => fcs_named hf hf0) hop).1
       have HOP := Lib.hid hop
       obtain ⟨A4, cap4, hht⟩ := ht_of HH.out H.out.hB H2.out.at_ H2.out.lnk HDS.out HTK.out.len HTK.out.named HCL.out HT4.out HEX.out HF4.out HNM.out hgood
       have HHT := Lib.hid hht
       clear hr2 hff hrr hop hgood hht
       go_wp2
       refine bodyPost_ret (v := .tuple #[.pointer (some ⟨nb, 0, none⟩), .int .i64 0, .int .i64 0]) (by simp [results, Tryz.results27, go_sem]) rfl ?_
       exact ⟨.inr ⟨ds, nb, mb', A4, cap4, cl, sl', S', HOP.out, rfl, HHT.out.below (hbelow_drewN (Below.refl _ _) m)⟩, HBEL.out⟩
end
set_option maxRecDepth 1000000 in
set_option maxHeartbeats 6400000 in
theorem New_any {w : World} (hN : Blt w) {Bf : Nat} (fs : List Fl) (v : Value) (hf : FsRow Bf w v fs) (hBf : Bf ≤ w.heap.size) (ht : ∀ f ∈ fs, FileOk f) :
  Calls Tryz.prog 18 #[v] w fun e w' => OpenAns builtP fs w' e ∧ Below w.heap.size w w' := by
 obtain ⟨Af, capf, rfl, hcapf, hmaxf⟩ := hf.form
 have BT := Lib.hid (builtinTable_any hN)
 have HF := Lib.hid hf
 have HTX := Lib.hid ht
 clear hN hf ht
 go_enter Tryz.func18, Tryz.ntmps18
 go_wp2_with fail
 refine BT.out.mono ?_
 rintro e w1 ⟨tb, mb, A, cap, cl, sl, S, rfl, hT, hb⟩
 have OP := Lib.hid (Open_any hT fs _ (HF.out.keep fun p hp => hb.cell (p := p) (by omega)) (Nat.le_trans hBf hb.size) HTX.out (by decide))
 have HB := Lib.hid hb
 clear hT hb
 go_wp2_with fail
 refine OP.out.mono ?_
 rintro e w2 ⟨hans, hb2⟩
 have HB2 := Lib.hid (HB.out.trans (hb2.mono HB.out.size))
 clear hb2
 rcases hans with ⟨x, a, h1, rfl⟩ | ⟨ds, nb, mb', A', cap', cl', sl', S', h1, rfl, h2⟩
 ·have H1 := Lib.hid h1
  clear h1
  go_wp2
  refine bodyPost_ret (v := .tuple #[.pointer none, .int .i64 ((x : Nat) : Int), .int .i64 ((a : Nat) : Int)]) (by simp [results, Tryz.results18, go_sem]) rfl ?_
  exact ⟨.inl ⟨x, a, H1.out, rfl⟩, HB2.out⟩
 ·have H1 := Lib.hid h1
  have H2 := Lib.hid h2
  clear h1 h2
  go_wp2
  refine bodyPost_ret (v := .tuple #[.pointer (some ⟨nb, 0, none⟩), .int .i64 0, .int .i64 0]) (by simp [results, Tryz.results18, go_sem]) rfl ?_
  exact ⟨.inr ⟨ds, nb, mb', A', cap', cl', sl', S', H1.out, rfl, H2.out⟩, HB2.out⟩
/-- Which of n things the number c speaks of. -/
def pickN (c : Int) (n : Nat) : Nat := (if c < 0 then -(c + 1) else c).toNat % n
theorem pickN_lt (c : Int) {n : Nat} (h : 0 < n) : pickN c n < n := Nat.mod_lt _ h
/-- The names that raw numbers speak of. -/
def nmB : List ByteArray := [⟨#[65]⟩, ⟨#[66]⟩, ⟨#[67]⟩, ⟨#[68]⟩, ⟨#[73]⟩, ⟨#[74]⟩, ⟨#[79, 98, 106, 101, 99, 116]⟩, ⟨#[84, 104, 114, 111, 119, 97, 98, 108, 101]⟩, ⟨#[83, 116, 114, 105, 110, 103]⟩, ⟨#[78, 117, 108, 108]⟩, ⟨#[88]⟩]
def nmR (c : Int) : ByteArray := nmB.getD (pickN c 11) ⟨#[]⟩
theorem nmR_at (c : Int) : nmB[pickN c 11]? = some (nmR c) := by
 have h := pickN_lt c (n := 11) (by decide)
 unfold nmR
 have hl : pickN c 11 < nmB.length := h
 rw [List.getElem?_eq_getElem hl]
 simp [hl]
theorem info3 : ∃ i, Tryz.prog.info? 3 = some i ∧ i.zero = some (.int .i64 0) ∧ i.size = 1 ∧ i.bytes = 8 := info_parts (by kernel_rfl)
theorem own_grown_ty {w w' : World} {base base2 : Nat} {e e2 : TypeId} {size size2 : Nat} {u v : Value} {n n2 : Nat} {xs ys : List Value} (h : w.ownsRow base e size u n xs) (h2 : w.ownsRow base2 e2 size2 v n2 ys) (he : e2 ≠ e) (hg : w.grownBy w' v.ownBlock) : w'.ownsRow base e size u n xs := by
 refine h.kept hg ?_
 rcases h2.2 with ⟨rfl, _⟩ | ⟨g, cap, cur, rfl, _, hgg, _⟩
 ·cases hu : u.ownBlock with
  | none => exact .inl rfl
  | some q => right; simp [Value.ownBlock]
 ·right
  exact hown_ne h hgg he
theorem own_set_ty {w : World} {base : Nat} {e : TypeId} {size : Nat} {v : Value} {n : Nat} {xs : List Value} (h : w.ownsRow base e size v n xs) {b : Nat} {cs : Array Value} {t : TypeId} {m : Nat × Nat} (hb : w.heap[b]? = some (.cells cs t m)) (ht : t ≠ e) (i : Nat) (u : Value) : (w.setCell ⟨b, i, none⟩ u).ownsRow base e size v n xs :=
 hown_but h ((HBut.refl b b w).set b (.inl rfl)) (hown_ne h hb ht) (hown_ne h hb ht)
def poolR (nm sp : ByteArray) (l : List ByteArray) : List Cn := [cn1 nm, cn4 1, cn1 sp, cn4 3] ++ ifPool l 0
def ifsR (n : Nat) : List Int := (List.range n).map fun (i : Nat) => 6 + 2 * (i : Int)
theorem poolR_len (nm sp : ByteArray) (l : List ByteArray) : (poolR nm sp l).length = 4 + 2 * l.length := by simp [poolR, ifPool_length]; omega
theorem ifsR_snoc (n : Nat) : ifsR (n + 1) = ifsR n ++ [6 + 2 * (n : Int)] := by simp [ifsR, List.range_succ]
/-- A file that is being made: j of its interfaces stand in it. -/
structure FB (w0 : World) (fl : Int) (nm sp : ByteArray) (l : List ByteArray) (j : Nat) (vp vi : Value) (wx : World) : Prop where
 box : wx.heap[w0.heap.size + 1 + 1]? = some (.cells #[vp, .int .i64 fl, .int .i64 2, .int .i64 4, vi, .slice none 0 0, .slice none 0 0] 94 (0, 0))
 res : wx.heap[w0.heap.size]? = some (.cells #[.slice none 0 0, .int .i64 0, .int .i64 0, .int .i64 0, .slice none 0 0, .slice none 0 0, .slice none 0 0] 94 (0, 0))
 pool : wx.ownsRow w0.heap.size 138 6 vp (4 + 2 * j) ((poolR nm sp (l.take j)).flatMap ccells)
 ifs : wx.ownsRow w0.heap.size 3 1 vi j (iccells (ifsR j))
 below : Below w0.heap.size w0 wx
/-- .. of which one has its constants already. -/
structure FM (w0 : World) (fl : Int) (nm sp : ByteArray) (l : List ByteArray) (j : Nat) (vi : Value) (wx : World) : Prop where
 ex : ∃ vp, wx.heap[w0.heap.size + 1 + 1]? = some (.cells #[vp, .int .i64 fl, .int .i64 2, .int .i64 4, vi, .slice none 0 0, .slice none 0 0] 94 (0, 0)) ∧ wx.ownsRow w0.heap.size 138 6 vp (4 + 2 * (j + 1)) ((poolR nm sp (l.take (j + 1))).flatMap ccells)
 res : wx.heap[w0.heap.size]? = some (.cells #[.slice none 0 0, .int .i64 0, .int .i64 0, .int .i64 0, .slice none 0 0, .slice none 0 0, .slice none 0 0] 94 (0, 0))
 ifs : wx.ownsRow w0.heap.size 3 1 vi j (iccells (ifsR j))
 below : Below w0.heap.size w0 wx
theorem FM.next {w0 w3 : World} {fl : Int} {nm sp : ByteArray} {l : List ByteArray} {j : Nat} {vp vi v3 : Value} (K3 : w3.heap[w0.heap.size + 1 + 1]? = some (.cells #[vp, .int .i64 fl, .int .i64 2, .int .i64 4, vi, .slice none 0 0, .slice none 0 0] 94 (0, 0)))
  (R3 : w3.heap[w0.heap.size]? = some (.cells #[.slice none 0 0, .int .i64 0, .int .i64 0, .int .i64 0, .slice none 0 0, .slice none 0 0, .slice none 0 0] 94 (0, 0)))
  (P3 : w3.ownsRow w0.heap.size 138 6 vp (4 + 2 * (j + 1)) ((poolR nm sp (l.take (j + 1))).flatMap ccells)) (own3 : w3.ownsRow w0.heap.size 3 1 v3 (j + 1) (iccells (ifsR j) ++ [.int .i64 (6 + 2 * (j : Int))])) (B3 : Below w0.heap.size w0 w3) :
  FB w0 fl nm sp l (j + 1) vp v3 (w3.setCell ⟨w0.heap.size + 1 + 1, 4, none⟩ v3) := by
 refine ⟨by rw [heap_set_eq K3]; rfl, hheap_set_ne (by show w0.heap.size ≠ w0.heap.size + 1 + 1; omega) R3, own_set_ty P3 K3 (by decide) _ _, ?_, B3.setCell (p := ⟨w0.heap.size + 1 + 1, 4, none⟩) (by show w0.heap.size ≤ w0.heap.size + 1 + 1; omega) _⟩
 have e : iccells (ifsR (j + 1)) = iccells (ifsR j) ++ [.int .i64 (6 + 2 * (j : Int))] := by rw [ifsR_snoc]; simp [iccells]
 rw [e]
 exact own_set_ty own3 K3 (by decide) _ _
/-- A class of raw parts. -/
structure Rw where
 fl : Int
 nm : Int
 sp : Int
 ifs : List Int
def B64 (z : Int) : Prop := -9223372036854775808 ≤ z ∧ z ≤ 9223372036854775807
structure Rw.Ok (r : Rw) : Prop where
 fl : B64 r.fl
 nm : B64 r.nm
 sp : B64 r.sp
 ifs : ∀ z ∈ r.ifs, B64 z
def flR (c : Int) : Int := ([0, 0, 2, 3] : List Int).getD (pickN c 4) 0
def ifnR (r : Rw) : List ByteArray := (r.ifs.take 4).map nmR
def fileR (r : Rw) : Fl := rawP (flR r.fl) (nmR r.nm) (nmR r.sp) (ifnR r)
def filesR (rs : List Rw) : List Fl := (rs.take 70).map fileR
/-- A file that the call owns, as file makes it. -/
def FileOwn (w : World) (base : Nat) (x : Value) (f : Fl) : Prop :=
 ∃ vp vi, x = .agg #[vp, .int .i64 f.fl, .int .i64 f.this, .int .i64 f.super, vi, .slice none 0 0, .slice none 0 0] ∧ w.ownsRow base 138 6 vp f.pool.length (f.pool.flatMap ccells) ∧ w.ownsRow base 3 1 vi f.ifs.length (iccells f.ifs) ∧ f.fds = [] ∧ f.mts = []
theorem FileOwn.at_ {w : World} {base : Nat} {x : Value} {f : Fl} (h : FileOwn w base x f) : FileAt w.heap.size w x f := by
 obtain ⟨vp, vi, rfl, h1, h2, h3, h4⟩ := h
 obtain ⟨ap, cp, rfl⟩ := hown_form h1
 obtain ⟨ai, ci, rfl⟩ := hown_form h2
 refine ⟨ap, cp, ai, ci, none, 0, none, 0, by rw [h3, h4]; rfl, ⟨Row.hof_own h1, Row.hof_own h2, ?_, ?_⟩⟩
 ·rw [h3]; exact ⟨[], rfl, by simp, Row.nil⟩
 ·rw [h4]; exact ⟨[], rfl, by simp, Row.nil⟩
theorem FileOwn.grown {w w' : World} {base base2 : Nat} {x v : Value} {f : Fl} {e : TypeId} {size n : Nat} {xs : List Value} (h : FileOwn w base x f) (h2 : w.ownsRow base2 e size v n xs) (h138 : e ≠ 138) (h3 : e ≠ 3) (hg : w.grownBy w' v.ownBlock) : FileOwn w' base x f := by
 obtain ⟨vp, vi, e1, p, q, r⟩ := h
 exact ⟨vp, vi, e1, own_grown_ty p h2 h138 hg, own_grown_ty q h2 h3 hg, r⟩
theorem FileOwn.below {w w' : World} {base : Nat} {x : Value} {f : Fl} (h : FileOwn w base x f) (hb : Below w.heap.size w w') : FileOwn w' base x f := by
 obtain ⟨vp, vi, e1, p, q, r⟩ := h
 exact ⟨vp, vi, e1, hown_below p hb, hown_below q hb, r⟩
theorem raw_own {w : World} {base : Nat} {fl : Int} {nm sp : ByteArray} {l : List ByteArray} {vp vi : Value} (h1 : w.ownsRow base 138 6 vp (4 + 2 * l.length) ((poolR nm sp l).flatMap ccells)) (h2 : w.ownsRow base 3 1 vi l.length (iccells (ifsR l.length))) :
  FileOwn w base (.agg #[vp, .int .i64 fl, .int .i64 2, .int .i64 4, vi, .slice none 0 0, .slice none 0 0]) (rawP fl nm sp l) := by
 refine ⟨vp, vi, rfl, ?_, ?_, rfl, rfl⟩
 ·show w.ownsRow base 138 6 vp (poolR nm sp l).length _
  rw [poolR_len]
  exact h1
 ·have e : (rawP fl nm sp l).ifs = ifsR l.length := rfl
  rw [e, show (ifsR l.length).length = l.length by simp [ifsR]]
  exact h2
/-- A file that a call answers stands whatever is made behind it. -/
def FileV (w : World) (x : Value) (f : Fl) : Prop := FileAt w.heap.size w x f ∧ ∃ vp vi, x = .agg #[vp, .int .i64 f.fl, .int .i64 f.this, .int .i64 f.super, vi, .slice none 0 0, .slice none 0 0]
theorem FileV.of {fl : Int} {nm sp : ByteArray} {l : List ByteArray} {w w' : World} {vp vi : Value} (h1 : w'.ownsRow w.heap.size 138 6 vp (4 + 2 * l.length) ((poolR nm sp l).flatMap ccells)) (h2 : w'.ownsRow w.heap.size 3 1 vi l.length (iccells (ifsR l.length))) :
  FileV w' (.agg #[vp, .int .i64 fl, .int .i64 2, .int .i64 4, vi, .slice none 0 0, .slice none 0 0]) (rawP fl nm sp l) :=
 ⟨(raw_own h1 h2).at_, vp, vi, rfl⟩
theorem FileV.next {w w' : World} {x : Value} {f : Fl} (h : FileV w x f) (hb : Below w.heap.size w w') : FileV w' x f :=
 ⟨(h.1.keep fun p hp => hb.cell hp).more hb.size, h.2⟩
/-- Files written out as a slice. -/
theorem lit_row {w : World} (fs : List Fl) (vs : List Value) (hl : vs.length = fs.length) (h : ∀ (i : Nat) (f : Fl) (x : Value), fs[i]? = some f → vs[i]? = some x → FileV w x f) (hm : fs.length ≤ 1000) :
  FsRow (w.alloc (.cells (vs.flatMap aggs).toArray 94)).heap.size (w.alloc (.cells (vs.flatMap aggs).toArray 94)) (.slice (some ⟨w.heap.size, 0, none⟩) fs.length fs.length) fs := by
 have hb : Below w.heap.size w (w.alloc (.cells (vs.flatMap aggs).toArray 94)) := (Below.refl _ _).alloc (Nat.le_refl _) _
 refine ⟨vs, hl, fun i f x a b => ((h i f x a b).next hb).1, ?_⟩
 have hk := kcells_of (hheap_new w (.cells (vs.flatMap aggs).toArray 94))
 have hlen : (vs.flatMap aggs).length = fs.length * 7 := by
  have : ∀ (vs : List Value) (fs : List Fl), vs.length = fs.length → (∀ (i : Nat) (f : Fl) (x : Value), fs[i]? = some f → vs[i]? = some x → FileV w x f) → (vs.flatMap aggs).length = fs.length * 7 := by
   intro vs
   induction vs with
   | nil => intro fs h1 _; cases fs with
    | nil => rfl
    | cons f r => simp at h1
   | cons x r ih => intro fs h1 h2; cases fs with
    | nil => simp at h1
    | cons f t =>
     obtain ⟨_, vp, vi, e⟩ := h2 0 f x rfl rfl
     have := ih t (by simpa using h1) (fun i g y a b => h2 (i + 1) g y (by simpa using a) (by simpa using b))
     rw [List.flatMap_cons, List.length_append, this, e]
     simp [aggs]
     omega
  exact this vs fs hl h
 refine ⟨some ⟨w.heap.size, 0, none⟩, fs.length, rfl, Nat.le_refl _, by unfold maxLen; omega, ?_⟩
 refine ⟨hlen, fun hn => ⟨w.heap.size, 0, rfl, by simp, fun j u hj => ?_⟩⟩
 rw [Nat.zero_add, hk]
 simpa using hj
theorem nmB_ok : ∀ s ∈ nmB, OkN s := by
 intro s hs
 simp only [nmB, List.mem_cons, List.not_mem_nil, or_false] at hs
 rcases hs with rfl | rfl | rfl | rfl | rfl | rfl | rfl | rfl | rfl | rfl | rfl <;> exact ⟨by decide +kernel, by decide +kernel, by decide +kernel, by decide +kernel⟩
theorem nmR_ok (c : Int) : OkN (nmR c) := nmB_ok _ (List.mem_of_getElem? (nmR_at c))
theorem flR_in (c : Int) : flR c = 0 ∨ flR c = 2 ∨ flR c = 3 := by
 have h := pickN_lt c (n := 4) (by decide)
 unfold flR
 generalize pickN c 4 = p at h
 match p, h with
 | 0, _ => exact .inl rfl
 | 1, _ => exact .inl rfl
 | 2, _ => exact .inr (.inl rfl)
 | 3, _ => exact .inr (.inr rfl)
theorem ifnR_ok (r : Rw) : ∀ s ∈ ifnR r, OkN s := fun s hs => by
 obtain ⟨c, _, rfl⟩ := List.mem_map.1 hs
 exact nmR_ok c
theorem ifnR_len (r : Rw) : (ifnR r).length ≤ 4 := by
 unfold ifnR
 rw [List.length_map, List.length_take]
 omega
theorem filesR_texts (rs : List Rw) : ∀ f ∈ filesR rs, FileOk f := fun f h => by
 obtain ⟨r, _, rfl⟩ := List.mem_map.1 h
 exact rawF_ok (nmR_ok _) (nmR_ok _) (ifnR_ok r) (by have := ifnR_len r; omega) (flR_in r.fl)
end Go.Proofs.YtmaknddlgppinaaGreatDoor
