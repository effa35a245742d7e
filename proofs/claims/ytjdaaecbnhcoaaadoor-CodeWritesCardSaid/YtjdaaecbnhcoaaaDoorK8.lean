/-
  WALK of Decode.
-/
import Derived.Test.YtjdaaecbnhcoaaaDoorK7
set_option linter.unusedVariables false
set_option linter.unusedSimpArgs false
namespace Go.Proofs.YtjdaaecbnhcoaaaDoor
open Go.RowKit

theorem lenErr_all (n : Nat) (w : World) :
    Calls Tryd.prog 31 #[.int .i64 n] w fun e w' => e = .returned (.int .i64 (lenP n)) ∧ w = w' := by
  go_enter Tryd.func31, Tryd.ntmps31
  go_wp2
  all_goals (go_ret; refine ⟨ret_i ?_, rfl⟩; (try simp only [beq_iff_eq, beq_eq_false_iff_ne, ne_eq, decide_eq_true_eq, decide_eq_false_iff_not] at *); unfold lenP; (repeat' split) <;> first | rfl | omega)
theorem info43 : ∃ i, Tryd.prog.info? 43 = some i ∧ i.zero = some zeroIn ∧ i.size = 5 ∧ i.bytes = 72 := info_parts (by kernel_rfl)
theorem NOwn.more {w2 w3 : World} {o1 o2 : Obj} {base : Nat} {v v' : Value} {acc : List In} {ps : List (Value × Value)} {x : In} {k t : Value} (hs : Subs (IOwn w2 base) acc ps) (hb : base ≤ w2.heap.size)
    (ho : w2.ownsRow base 43 5 v acc.length ((acc.zip ps).flatMap ncells)) (hk : IOwn w2 base k x.keys) (ht : IOwn w2 base t x.to)
    (own3 : w3.ownsRow base 43 5 v' (acc.length + 1) ((acc.zip ps).flatMap ncells ++ ncells (x, k, t))) (hg : ((w2.alloc o1).alloc o2).grownBy w3 v.ownBlock) : NOwn w3 base v' (acc ++ [x]) := by
  have hk1 : Kept 43 base w2 w3 := (((Kept.refl 43 base w2).alloc hb o1).alloc (le_alloc hb o1) o2).trans (own_grown ((ho.alloc o1).alloc o2) (le_alloc (le_alloc hb o1) o2) hg)
  have km := fun (u : Value) (l : List Int) (h : IOwn w2 base u l) => (show IOwn w3 base u l from own_kept h (by decide) hk1)
  refine ⟨ps ++ [(k, t)], (hs.imp km).snoc (km _ _ hk) (km _ _ ht), ?_⟩
  rw [List.zip_append hs.1.symm, List.flatMap_append, List.length_append]
  simpa using own3
theorem insP_one {pc : Nat} {r : List UInt8} (hr : r ≠ []) (h : (oneP pc r).e = 0) (acc : List In) (a : Int × List In) (ha : a = ((insP pc r).1, acc ++ (insP pc r).2)) :
    a = ((insP (pc + (oneP pc r).n) (r.drop (oneP pc r).n)).1, (acc ++ [(oneP pc r).x]) ++ (insP (pc + (oneP pc r).n) (r.drop (oneP pc r).n)).2) := by
  rw [ha, insP_ok hr h]
  simp
theorem oneP_pc {pc : Nat} {r : List UInt8} (h : (oneP pc r).e = 0) : (oneP pc r).x.pc = pc := by
  unfold oneP at h ⊢
  simp only at h ⊢
  repeat' split
  all_goals first | rfl | (exfalso; revert h; simp_all)
def strLen : Value → Nat | .string b => b.size | _ => 0
/-- What stands at the head of Decode's loop. -/
structure DecAt (w : World) (s : ByteArray) (pc : Nat) (acc : List In) (t : ByteArray) (v : Value) (wr : World) : Prop where
  str : L t = (L s).drop pc
  size : t.size = s.size - pc
  le : pc ≤ s.size
  own : NOwn wr w.heap.size v acc
  bel : Below w.heap.size w wr
  ins : insP 0 (L s) = ((insP pc (L t)).1, acc ++ (insP pc (L t)).2)
  pcs : ∀ x ∈ acc, 0 ≤ x.pc ∧ x.pc < pc
  len : acc.length ≤ pc
  ne : 0 < pc → acc ≠ []
set_option maxRecDepth 1000000 in
set_option maxHeartbeats 6400000 in
theorem Decode_any (s : ByteArray) (w : World) :
    Calls Tryd.prog 19 #[.string s] w fun e w' => ∃ v, e = .returned (.tuple #[v, .int .i64 (decE (L s))]) ∧ NOwn w' w.heap.size v (decL (L s)) ∧ Below w.heap.size w w' := by
  have HLE := fun W => Lib.hid (lenErr_all s.size W)
  by_cases h0 : lenP s.size = 0
  · obtain ⟨i0, hi, hz0, hz1, hz2⟩ := info43
    rw [h0] at HLE
    have hs1 : 1 ≤ s.size := by
      unfold lenP at h0
      split at h0
      · cases h0
      · omega
    have hs4 : s.size ≤ 4096 := by
      unfold lenP at h0
      split at h0
      · cases h0
      · split at h0
        · cases h0
        · omega
    have H0 := Lib.hid h0
    clear h0
    go_enter Tryd.func19, Tryd.ntmps19
    go_wp2_with fail
    refine (HLE _).out.mono ?_
    rintro e w1 ⟨rfl, rfl⟩
    go_wp2
    go_loopw [5, 6] (fun u5 u6 wr => ∃ (pc : Nat) (acc : List In) (t : ByteArray), u6 = .string t ∧ DecAt w s pc acc t u5 wr) (fun _ u6 _ => strLen u6)
    case atStart => exact ⟨0, [], s, rfl, rfl, rfl, Nat.zero_le _, NOwn.nil _ _, Below.refl _ _, rfl, by simp, Nat.le_refl _, by omega⟩
    case round =>
      obtain ⟨pc, acc, t, rfl, hd⟩ := hrel
      have HD := Lib.hid hd
      have hbz := hd.bel.size
      have hpl := hd.le
      have hal := hd.len
      obtain ⟨av, cv, rfl⟩ := hd.own.form
      have hts : t.size ≤ 4096 := by have := hd.size; omega
      have hsub : (s.size : Int) - (t.size : Int) = pc := by have := hd.size; omega
      have HSUB := Lib.hid hsub
      clear hd hsub
      by_cases hz : t.size = 0
      · have e1 := nil_of0 hz
        have e2 := emp_of0 hz
        have HZ := Lib.hid hz
        clear hz
        have hd := HD.out
        have hpc : pc = s.size := by have := hd.size; have := HZ.out; omega
        have hLt : L t = [] := size0_nil HZ.out
        have hins : insP 0 (L s) = (0, acc) := by rw [hd.ins, hLt, insP_nil]; simp
        have hacc : acc ≠ [] := hd.ne (by omega)
        have hpcs : Pcs acc := fun x hx => by have := hd.pcs x hx; omega
        have hdE : decE (L s) = flowP acc := by
          unfold decE
          rw [← size_L, H0.out, if_neg (by decide), hins]
          simp
        have hdL : decL (L s) = if flowP acc = 0 then acc else [] := by
          unfold decL
          rw [hdE, hins]
        have HF := Lib.hid (flow_any wr.heap.size acc _ wr hd.own.row (Nat.le_refl _) hacc hpcs)
        have OWN := Lib.hid hd.own
        have BE := Lib.hid hd.bel
        obtain ⟨f, hf⟩ : ∃ f, flowP acc = f := ⟨_, rfl⟩
        rw [hf] at HF hdE hdL
        have HDE := Lib.hid hdE
        have HDL := Lib.hid hdL
        clear hd hLt hins hdE hdL hpcs hacc HD HSUB hpc hf
        by_cases hz : f = 0
        · subst hz
          go_wp2_with fail
          refine HF.out.mono ?_
          rintro e w2 ⟨rfl, hb2⟩
          have OWN2 := Lib.hid (OWN.out.below hb2)
          have BE2 := Lib.hid (Below.link BE.out hb2)
          clear hb2
          go_wp2
          go_ret2
          exact ⟨.slice av acc.length cv, by rw [HDE.out]; rfl, by rw [HDL.out]; first | (rw [if_pos rfl]; exact OWN2.out) | (rw [if_pos trivial]; exact OWN2.out), BE2.out⟩
        · have e3 : (f == 0) = false := by simpa using hz
          have HZ := Lib.hid hz
          clear hz
          go_wp2_with fail
          refine HF.out.mono ?_
          rintro e w2 ⟨rfl, hb2⟩
          have BE2 := Lib.hid (Below.link BE.out hb2)
          clear hb2
          go_wp2
          go_ret2
          exact ⟨.slice none 0 0, by rw [HDE.out]; rfl, by rw [HDL.out, if_neg HZ.out]; exact NOwn.nil _ _, BE2.out⟩
      · have hp : 0 < t.size := by omega
        have e1 := ne_ofpos hp
        have e2 := emp_ofpos hp
        have HRI := fun W q (hq : q = (pc : Int)) => Lib.hid (show Calls Tryd.prog 32 #[.string t, .int .i64 q] W fun e w' => InE W t (oneP pc (L t)) e w' from hq ▸ readInstr_any t pc W (by omega) hp (by omega))
        clear hz
        go_wp2_with fail
        refine (HRI _ _ HSUB.out).out.mono ?_
        rintro e w2 (⟨hne, rfl, hb2⟩ | ⟨he, kv, tv, t2, rfl, hL2, hk2, ht2, hb2⟩)
        · have hd := HD.out
          have hne0 : L t ≠ [] := sizepos_ne hp
          have hins : (insP 0 (L s)).1 = (oneP pc (L t)).e := by rw [hd.ins, insP_err hne0 hne]
          have hdE : decE (L s) = (oneP pc (L t)).e := by
            unfold decE
            rw [← size_L, H0.out, if_neg (by decide), hins, if_pos hne]
          have hdL : decL (L s) = [] := by
            unfold decL
            rw [hdE, if_neg hne]
          have BE2 := Lib.hid (Below.link hd.bel hb2)
          obtain ⟨f, hf⟩ : ∃ f, (oneP pc (L t)).e = f := ⟨_, rfl⟩
          rw [hf] at hne hdE ⊢
          have HDE := Lib.hid hdE
          have HDL := Lib.hid hdL
          have e3 : (f == 0) = false := by simpa using hne
          clear hd hins hdE hdL hne0 hb2 HRI HD HSUB hf hne
          unfold zeroIn
          go_wp2
          go_ret2
          exact ⟨.slice none 0 0, by rw [HDE.out]; rfl, by rw [HDL.out]; exact NOwn.nil _ _, BE2.out.alloc BE2.out.size _⟩
        · have hd := HD.out
          have hne0 : L t ≠ [] := sizepos_ne hp
          have hI := insP_one hne0 he acc _ hd.ins
          have hX := oneP_pc he
          have hN := oneP_n he
          have hN2 := oneP_le hne0 he
          rw [← size_L] at hN2
          have hts2 : t2.size = t.size - (oneP pc (L t)).n := by rw [size_L, hL2, List.length_drop, ← size_L]
          obtain ⟨ps, hsub, hrow⟩ := hd.own.below hb2
          have BE2 := Lib.hid (Below.link hd.bel hb2)
          rw [← hL2] at hI
          have hL3 : L t2 = (L s).drop (pc + (oneP pc (L t)).n) := by rw [hL2, hd.str, List.drop_drop]
          have hk3 : IOwn w2 w.heap.size kv (oneP pc (L t)).x.keys := own_mono hk2 hbz
          have ht3 : IOwn w2 w.heap.size tv (oneP pc (L t)).x.to := own_mono ht2 hbz
          obtain ⟨ak, ck, rfl⟩ := hk2.form
          obtain ⟨a_t, c_t, rfl⟩ := ht2.form
          have hpcs := hd.pcs
          have hdz := hd.size
          obtain ⟨x, hx⟩ : ∃ x, (oneP pc (L t)).x = x := ⟨_, rfl⟩
          obtain ⟨n, hn⟩ : ∃ n, (oneP pc (L t)).n = n := ⟨_, rfl⟩
          rw [hx] at hk3 ht3 hX hI
          rw [hn] at hN hN2 hts2 hI hL3
          have HI := Lib.hid hI
          have HX := Lib.hid hX
          have HL3 := Lib.hid hL3
          have HTS2 := Lib.hid hts2
          have HS := Lib.hid hsub
          have HRW := Lib.hid hrow
          have HK3 := Lib.hid hk3
          have HT3 := Lib.hid ht3
          have HPS := Lib.hid hpcs
          have HDZ := Lib.hid hdz
          rw [hx]
          clear hd hne0 hI hX hts2 hsub hrow hL3 hL2 hk2 ht2 hk3 ht3 hx hn hb2 he HRI HD HSUB hpcs hdz
          have hbz2 := BE2.out.size
          go_wp2_with (at_builtin; refine wpList_append_own _ rfl (.tmp 34) (.tmp 36) 30 rfl w.heap.size 43 i0 zeroIn 5 72 Tryd.underlying30 hi hz0 hz1 hz2 rfl (by decide) _ _ _ rfl ((HRW.out.alloc _).alloc _) ⟨_, 0, none⟩ 1 1 [.int .i64 x.pc, .int .i64 x.op, .int .i64 x.n, .slice ak x.keys.length ck, .slice a_t x.to.length c_t] rfl rfl ?ra ?rb ?rc ?rd ?re ?_)
          case ra => exact new_at _ [.int .i64 x.pc, .int .i64 x.op, .int .i64 x.n, .slice ak x.keys.length ck, .slice a_t x.to.length c_t] 43 _ (by simp)
          case rb => intro u hu; simp at hu; rcases hu with rfl | rfl | rfl | rfl | rfl <;> rfl
          case rc => unfold maxLen; omega
          case rd => omega
          case re => simp; omega
          intro v3 w3 own3 hg3 _
          have OWN3 := Lib.hid (NOwn.more HS.out BE2.out.size HRW.out HK3.out HT3.out own3 hg3)
          have BE3 := Lib.hid (((BE2.out.alloc BE2.out.size _).alloc (le_alloc BE2.out.size _) _).grown hg3 (le_alloc (le_alloc BE2.out.size _) _) (own_block_ge HRW.out))
          obtain ⟨a3, c3, rfl⟩ := own_form own3
          clear own3 hg3
          go_wp2
          go_roundw
          case rel =>
            refine ⟨pc + n, acc ++ [x], t2, rfl, HL3.out, by have := HTS2.out; have := HDZ.out; omega, by have := HDZ.out; omega, OWN3.out, BE3.out, HI.out, ?_, by simp; omega, fun _ => by simp⟩
            intro y hy
            rcases List.mem_append.1 hy with hy | hy
            · have := HPS.out y hy; omega
            · simp only [List.mem_singleton] at hy
              subst hy
              rw [HX.out]
              omega
          case measure => simp [strLen]; have := HTS2.out; omega
  · have h0' : (lenP s.size == 0) = false := by simpa using h0
    have HE : decE (L s) = lenP s.size := by
      unfold decE
      rw [← size_L, if_pos h0]
    have HL : decL (L s) = [] := by unfold decL; rw [HE, if_neg h0]
    rw [HE, HL]
    clear HE HL h0
    go_enter Tryd.func19, Tryd.ntmps19
    go_wp2_with fail
    refine (HLE _).out.mono ?_
    rintro e w1 ⟨rfl, rfl⟩
    go_wp2
    go_ret2
    exact ⟨_, rfl, NOwn.nil _ _, Below.refl _ _⟩
end Go.Proofs.YtjdaaecbnhcoaaaDoor
