/-
  CUT by wip/tools/rawprune.py: what is needed of an earlier stage's text.
-/
import Derived.Test.YtbeelcklbdnjnaaK12
import Derived.Test.YtbeelcklbdnjnaaK10
import Derived.Test.YtbeelcklbdnjnaaTn
set_option linter.unusedVariables false
set_option linter.unusedSimpArgs false
namespace Go.Proofs.Ytbeelcklbdnjnaa
open Go.RowKit

theorem refOne_any (s : ByteArray) (pc : Nat) (w : World) (hpc : pc < s.size) (hm : s.size ≤ 1000000) :
    Calls Try.prog 24 #[.string s, .int .i64 pc] w fun e w' => OneE w (oneP pc ((L s).drop pc)) e w' := by
  rcases formP_in (b1 ((L s).drop pc) 0) with h | h | h | h | h | h
  · exact refOne_0 s pc w hpc hm h
  · exact refOne_115 s pc w hpc hm h
  · exact refOne_106 s pc w hpc hm h
  · exact refOne_98 s pc w hpc hm h
  · exact refOne_110 s pc w hpc hm h
  · exact refOne_45 s pc w hpc hm h
set_option maxRecDepth 1000000 in
set_option maxHeartbeats 6400000 in
theorem refDecode_any (s : ByteArray) (w : World) :
    Calls Try.prog 9 #[.string s] w fun e w' => ∃ v, e = .returned (.tuple #[v, .int .i64 (decE (L s))]) ∧ NOwn w' w.heap.size v (decL (L s)) ∧ Below w.heap.size w w' := by
  by_cases h0 : s.size = 0
  · have e1 := nil_of0 h0
    have e2 := emp_of0 h0
    have HE : decE (L s) = 5 := by rw [size0_nil h0]; rfl
    have HL : decL (L s) = [] := by rw [size0_nil h0]; rfl
    rw [HE, HL]
    clear HE HL h0
    go_enter Try.func9, Try.ntmps9
    go_wp2
    go_ret2
    exact ⟨_, rfl, NOwn.nil _ _, Below.refl _ _⟩
  have hp0 : 0 < s.size := by omega
  have e1 := ne_ofpos hp0
  have e2 := emp_ofpos hp0
  by_cases h4 : s.size ≤ 4096
  · obtain ⟨i0, hi, hz0, hz1, hz2⟩ := info43
    have hlen : lenP s.size = 0 := by unfold lenP; rw [if_neg h0, if_neg (by omega)]
    have H0 := Lib.hid hlen
    clear hlen h0
    go_enter Try.func9, Try.ntmps9
    go_wp2
    clear e1 e2
    go_loopw [4, 5] (fun u4 u5 wr => ∃ (pc : Nat) (acc : List In), u5 = .int .i64 pc ∧ DecAt w s pc acc (s.extract pc s.size) u4 wr) (fun _ u5 _ => s.size - (intOf u5).toNat)
    case atStart =>
      refine ⟨0, [], rfl, by rw [L_from], by rw [ByteArray.size_extract]; omega, Nat.zero_le _, NOwn.nil _ _, Below.refl _ _, ?_, by simp, Nat.le_refl _, by omega⟩
      rw [L_from]; rfl
    case round =>
      obtain ⟨pc, acc, rfl, hd⟩ := hrel
      have hbz := hd.bel.size
      have hpl := hd.le
      have hal := hd.len
      obtain ⟨av, cv, rfl⟩ := hd.own.form
      have HD := Lib.hid hd
      clear hd
      by_cases hz : pc < s.size
      · have HRI := fun W => Lib.hid (refOne_any s pc W hz (by omega))
        go_wp2_with fail
        refine (HRI _).out.mono ?_
        rintro e w2 (⟨hne, ⟨a, b, c, a1, n1, c1, a2, n2, c2, rfl⟩, hb2⟩ | ⟨he, kv, tv, rfl, hk2, ht2, hb2⟩)
        · have hd := HD.out
          have hne0 : (L s).drop pc ≠ [] := by
            intro e
            have := congrArg List.length e
            rw [List.length_drop, ← size_L, List.length_nil] at this
            omega
          have hins : (insP 0 (L s)).1 = (oneP pc ((L s).drop pc)).e := by rw [hd.ins, hd.str, insP_err hne0 hne]
          have hdE : decE (L s) = (oneP pc ((L s).drop pc)).e := by
            unfold decE
            rw [← size_L, H0.out, if_neg (by decide), hins, if_pos hne]
          have hdL : decL (L s) = [] := by
            unfold decL
            rw [hdE, if_neg hne]
          have BE2 := Lib.hid (Below.link hd.bel hb2)
          obtain ⟨f, hf⟩ : ∃ f, (oneP pc ((L s).drop pc)).e = f := ⟨_, rfl⟩
          rw [hf] at hne hdE ⊢
          have HDE := Lib.hid hdE
          have HDL := Lib.hid hdL
          have e3 : (f == 0) = false := by simpa using hne
          clear hd hins hdE hdL hne0 hb2 HRI HD hf hne
          go_wp2
          go_ret2
          exact ⟨.slice none 0 0, by rw [HDE.out]; rfl, by rw [HDL.out]; exact NOwn.nil _ _, BE2.out.alloc BE2.out.size _⟩
        · have hd := HD.out
          have hne0 : (L s).drop pc ≠ [] := by
            intro e
            have := congrArg List.length e
            rw [List.length_drop, ← size_L, List.length_nil] at this
            omega
          have hI := insP_one hne0 he acc (insP 0 (L s)) (by have := hd.ins; rwa [hd.str] at this)
          have hX := oneP_pc he
          have hN := oneP_n he
          have hN2 := oneP_le hne0 he
          rw [List.length_drop, ← size_L] at hN2
          rw [List.drop_drop] at hI
          obtain ⟨ps, hsub, hrow⟩ := hd.own.below hb2
          have BE2 := Lib.hid (Below.link hd.bel hb2)
          have hk3 : IOwn w2 w.heap.size kv (oneP pc ((L s).drop pc)).x.keys := own_mono hk2 hbz
          have ht3 : IOwn w2 w.heap.size tv (oneP pc ((L s).drop pc)).x.to := own_mono ht2 hbz
          obtain ⟨ak, ck, rfl⟩ := hk2.form
          obtain ⟨a_t, c_t, rfl⟩ := ht2.form
          have hpcs := hd.pcs
          obtain ⟨x, hx⟩ : ∃ x, (oneP pc ((L s).drop pc)).x = x := ⟨_, rfl⟩
          obtain ⟨n, hn⟩ : ∃ n, (oneP pc ((L s).drop pc)).n = n := ⟨_, rfl⟩
          rw [hx] at hk3 ht3 hX hI
          rw [hn] at hN hN2 hI
          have HI := Lib.hid hI
          have HX := Lib.hid hX
          have HS := Lib.hid hsub
          have HRW := Lib.hid hrow
          have HK3 := Lib.hid hk3
          have HT3 := Lib.hid ht3
          have HPS := Lib.hid hpcs
          rw [hx, hn]
          clear hd hne0 hI hX hsub hrow hk2 ht2 hk3 ht3 hx hn hb2 he HRI HD hpcs
          have hbz2 := BE2.out.size
          go_wp2_with (at_builtin; refine wpList_append_own _ rfl (.tmp 29) (.tmp 31) 24 rfl w.heap.size 44 i0 zeroIn 5 72 Try.underlying24 hi hz0 hz1 hz2 rfl (by decide) _ _ _ rfl ((HRW.out.alloc _).alloc _) ⟨_, 0, none⟩ 1 1 [.int .i64 x.pc, .int .i64 x.op, .int .i64 x.n, .slice ak x.keys.length ck, .slice a_t x.to.length c_t] rfl rfl ?ra ?rb ?rc ?rd ?re ?_)
          case ra => exact new_at _ [.int .i64 x.pc, .int .i64 x.op, .int .i64 x.n, .slice ak x.keys.length ck, .slice a_t x.to.length c_t] 44 _ (by simp)
          case rb => intro u hu; simp at hu; rcases hu with rfl | rfl | rfl | rfl | rfl <;> rfl
          case rc => unfold maxLen; omega
          case rd => omega
          case re => simp; omega
          intro v3 w3 own3 hg3 _
          have OWN3 := Lib.hid (NOwn.more HS.out BE2.out.size HRW.out HK3.out HT3.out own3 hg3)
          have BE3 := Lib.hid (((BE2.out.alloc BE2.out.size _).alloc (le_alloc BE2.out.size _) _).grown hg3 (le_alloc (le_alloc BE2.out.size _) _) (own_block_ge HRW.out))
          obtain ⟨a3, c3, rfl⟩ := own_form own3
          clear own3 hg3
          go_wp2
          go_roundw
          case rel =>
            refine ⟨pc + n, acc ++ [x], by go_num, by rw [L_from], by rw [ByteArray.size_extract]; omega, by omega, OWN3.out, BE3.out, by rw [L_from]; exact HI.out, ?_, by simp; omega, fun _ => by simp⟩
            intro y hy
            rcases List.mem_append.1 hy with hy | hy
            · have := HPS.out y hy; omega
            · simp only [List.mem_singleton] at hy
              subst hy
              rw [HX.out]
              omega
          case measure => simp [intOf]; omega
      · have hpc : pc = s.size := by omega
        have hd := HD.out
        have hLt : (L s).drop pc = [] := by rw [hpc, size_L]; simp
        have hins : insP 0 (L s) = (0, acc) := by rw [hd.ins, hd.str, hLt, insP_nil]; simp
        have hacc : acc ≠ [] := hd.ne (by omega)
        have hpcs : PcsN s.size acc := fun x hx => by have := hd.pcs x hx; omega
        have hdE : decE (L s) = flowP acc := by
          unfold decE
          rw [← size_L, H0.out, if_neg (by decide), hins]
          simp
        have hdL : decL (L s) = if flowP acc = 0 then acc else [] := by
          unfold decL
          rw [hdE, hins]
        have HF := Lib.hid (refFlow_any wr.heap.size s.size acc _ wr hd.own.row (Nat.le_refl _) hacc (by omega) hpcs)
        have OWN := Lib.hid hd.own
        have BE := Lib.hid hd.bel
        have hpg : s.size ≤ pc := by omega
        obtain ⟨f, hf⟩ : ∃ f, flowP acc = f := ⟨_, rfl⟩
        rw [hf] at HF hdE hdL
        have HDE := Lib.hid hdE
        have HDL := Lib.hid hdL
        clear hd hLt hins hdE hdL hpcs hacc HD hpc hf
        by_cases hz : f = 0
        · subst hz
          go_wp2_with fail
          refine HF.out.mono ?_
          rintro e w2 ⟨rfl, hb2⟩
          have OWN2 := Lib.hid (OWN.out.below hb2)
          have BE2 := Lib.hid (Below.link BE.out hb2)
          clear hb2
          go_wp2
          go_ret2
          exact ⟨.slice av acc.length cv, by rw [HDE.out]; rfl, by rw [HDL.out]; first | (rw [if_pos rfl]; exact OWN2.out) | (rw [if_pos trivial]; exact OWN2.out), BE2.out⟩
        · have e3 : (f == 0) = false := by simpa using hz
          have HZ := Lib.hid hz
          clear hz
          go_wp2_with fail
          refine HF.out.mono ?_
          rintro e w2 ⟨rfl, hb2⟩
          have BE2 := Lib.hid (Below.link BE.out hb2)
          clear hb2
          go_wp2
          go_ret2
          exact ⟨.slice none 0 0, by rw [HDE.out]; rfl, by rw [HDL.out, if_neg HZ.out]; exact NOwn.nil _ _, BE2.out⟩
  · have hlen : lenP s.size = 2 := by unfold lenP; rw [if_neg h0, if_pos (by omega)]
    have HE : decE (L s) = 2 := by
      unfold decE
      rw [← size_L, hlen, if_pos (by decide)]
    have HL : decL (L s) = [] := by unfold decL; rw [HE, if_neg (by decide)]
    rw [HE, HL]
    have h4' : 4096 < s.size := by omega
    clear HE HL hlen h0 h4
    go_enter Try.func9, Try.ntmps9
    go_wp2
    go_ret2
    exact ⟨_, rfl, NOwn.nil _ _, Below.refl _ _⟩
end Go.Proofs.Ytbeelcklbdnjnaa
