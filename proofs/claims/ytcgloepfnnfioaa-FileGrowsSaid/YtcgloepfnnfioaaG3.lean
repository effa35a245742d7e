/-
  WALK of the law FileGrows.
-/
import Derived.Test.YtcgloepfnnfioaaM1
import Derived.Test.YtcgloepfnnfioaaS2
import Derived.Test.YtcgloepfnnfioaaG2
set_option linter.unusedVariables false
set_option linter.unusedSimpArgs false
namespace Go.Proofs.Ytcgloepfnnfioaa
open Go.RowKit

theorem heap_set_eq {w : World} {b i : Nat} {u : Value} {cs : Array Value} {t : TypeId} {m : Nat × Nat} (h : w.heap[b]? = some (.cells cs t m)) (hi : i < cs.size) : (w.setCell ⟨b, i, none⟩ u).heap[b]? = some (.cells (cs.setIfInBounds i u) t m) := by
  have hlt := lt_of_block h
  simp only [World.setCell, Array.getElem?_modify, h]
  simp
theorem run_append_none' {P : Program} {w : World} (base : Nat) (t ty e : TypeId) (i : TypeInfo) (size c : Nat) (ht : P.underlying t = some (.slice e)) (hi : P.info? e = some i)
    (v : Value) (n : Nat) (xs : List Value) (hown : w.ownsRow base e size v n xs) :
    (Builtin.append_ #[t, t] ty #[v, .slice none 0 c]).run P w = .ok v w := by
  rcases hown.2 with ⟨rfl, rfl⟩ | ⟨g, cap, cur, rfl, _, _, hnc, _⟩
  · simp [Builtin.append_, run_underlying ht, sizeOf, typeInfo, hi, Builtin.lenOf, Builtin.firstCells]
  · simp [Builtin.append_, run_underlying ht, sizeOf, typeInfo, hi, Builtin.lenOf, Builtin.firstCells, hnc, storeCells]
theorem grownBy_refl (w : World) (row : Option Nat) : w.grownBy w row := ⟨rfl, rfl, rfl, Nat.le_refl _, fun _ _ _ => rfl⟩
/-- append of a row that may be nil. -/
theorem wpList_append_own_src {P : Program} {w : World} {ops : Array Oper} {rest : List Oper} {o : Oper} {a : Act} {Q : Exit → Act → World → Prop} (hgd : o.guard = none) (s x : Operand) (t : TypeId)
    (ho : o.op = .call { callee := .builtin .append, args := #[s, x], argTypes := #[t, t] })
    (base : Nat) (e : TypeId) (i : TypeInfo) (z : Value) (size bytes : Nat) (ht : P.underlying t = some (.slice e)) (hi : P.info? e = some i) (hz : i.zero = some z)
    (hsize : i.size = size) (hby : i.bytes = bytes) (hzs : z.cells.size = size) (hsz : 0 < size)
    (v : Value) (n : Nat) (xs : List Value) (hs : a.eval s = v) (hown : w.ownsRow base e size v n xs)
    (A : Option Addr) (m c : Nat) (news : List Value) (hx : a.eval x = .slice A m c) (hl : news.length = m * size) (hA : A = none → m = 0) (hnews : ∀ ad, A = some ad → ∀ j u, news[j]? = some u → w.cell? (ad.add j) = some u) (h1 : ∀ u ∈ news, u.oneCell' = true)
    (h63 : n + m ≤ maxLen) (hbytes : (n + m) * bytes ≤ 140737488355328) (hbase : base ≤ w.heap.size)
    (h : ∀ v' w', w'.ownsRow base e size v' (n + m) (xs ++ news) → w.grownBy w' v.ownBlock → wpList P ops Q rest (a.put o.dst v') w') : wpList P ops Q (o :: rest) a w := by
  cases A with
  | none =>
    obtain rfl := hA rfl
    have hn : news = [] := List.eq_nil_of_length_eq_zero (by simpa using hl)
    subst hn
    refine wpList_plain hgd fun K hK => ?_
    have hrun := run_append_none' (P := P) (w := w) base t o.type e i size c ht hi v n xs hown
    unfold Oper.wp
    simp [execOp, ho, resolve, invoke, builtin, hs, hx, hrun, Result.andThen]
    exact hK _ _ (h v w (by simpa using hown) (grownBy_refl _ _))
  | some ad => exact wpList_append_own w hgd s x t ho base e i z size bytes ht hi hz hsize hby hzs hsz v n xs hs hown ad m c news hx hl (hnews ad rfl) h1 h63 hbytes hbase fun v' w' h2 h3 _ => h v' w' h2 h3
theorem size_mkB (l : List UInt8) : (mkB l).size = l.length := by unfold mkB; simp [ByteArray.size]
set_option maxRecDepth 1000000 in
set_option maxHeartbeats 6400000 in
theorem grows_walk {B : Nat} (f : Fl) (v : Value) (w : World) (hf : FileAt B w v f) (hB : B ≤ w.heap.size) (hs : FitsF f) (n c : Int) (hc1 : -9223372036854775808 ≤ c) (hc2 : c ≤ 9223372036854775807) :
    Calls Try.prog 7 #[v, .int .i64 n, .int .i64 c] w fun e w' => e = .returned (.bool true) ∧ Below w.heap.size w w' := by
  obtain ⟨hm1, hm2, hm3, hm4⟩ := hf.max
  have HS := Lib.hid (fun V W hW hWB => Small_any (B := B) f V W hW hWB hs)
  have HR := Lib.hid (fun V W hW hWB => Right_file (B := B) f V W hW hWB hs.pool)
  have HE := Lib.hid (fun V W hW hWB => Encode_file (B := B) f V W hW hWB hs.pool)
  have HN := Lib.hid (fun V W hW hWB i => Name_file (B := B) f V W hW hWB i)
  have HGR := Lib.hid (fun h => grown f n h)
  have HTX := Lib.hid hs.pool
  obtain ⟨Ap, cp, Ai, ci, Af, cf, Am, cm, rfl, hi⟩ := id hf
  have HI := Lib.hid hi
  have BE0 := Lib.hid ((Below.refl w.heap.size w).alloc (Nat.le_refl _) (.cells #[.slice Ap f.pool.length cp, .int .i64 f.fl, .int .i64 f.this, .int .i64 f.super, .slice Ai f.ifs.length ci, .slice Af f.fds.length cf, .slice Am f.mts.length cm] 26))
  have BF0 := Lib.hid (FBox.new Ap cp Ai ci Af cf Am cm f w)
  have FL0 := Lib.hid (hf.alloc hB (.cells #[.slice Ap f.pool.length cp, .int .i64 f.fl, .int .i64 f.this, .int .i64 f.super, .slice Ai f.ifs.length ci, .slice Af f.fds.length cf, .slice Am f.mts.length cm] 26))
  clear hi hf hs
  cases hsm : smallB f with
  | false =>
    rw [hsm] at HS
    clear hsm
    go_enter Try.func7, Try.ntmps7
    go_wp2_with fail
    refine (shown_any _).mono ?_
    rintro e w1 ⟨rfl, hb⟩
    have BE1 := Lib.hid (Below.link BE0.out hb)
    have BF1 := Lib.hid (BF0.out.below hb (BF0.out.lt))
    have FL1 := Lib.hid (FL0.out.below hb (Nat.le_trans hB BE0.out.size))
    have lt1 := BF1.out.lt
    clear hb
    obtain ⟨c0, c1, c2, c3, c4, c5, c6⟩ := BF1.out.cells
    go_wp2_with fail
    refine (HS.out _ _ FL1.out (by omega)).mono ?_
    rintro e w2 ⟨rfl, hb⟩
    have BE2 := Lib.hid (Below.link BE1.out hb)
    have BF2 := Lib.hid (BF1.out.below hb (BF1.out.lt))
    have FL2 := Lib.hid (FL1.out.below hb (Nat.le_trans hB BE1.out.size))
    have lt2 := BF2.out.lt
    clear hb
    clear c0 c1 c2 c3 c4 c5 c6
    obtain ⟨c0, c1, c2, c3, c4, c5, c6⟩ := BF2.out.cells
    go_wp2
    go_ret
    exact ⟨rfl, BE2.out⟩
  | true =>
    rw [hsm] at HS
    have HSM := Lib.hid hsm
    clear hsm
    by_cases he : encF f = 0
    · have HGROW := Lib.hid (HGR.out he)
      rw [he] at HR
      clear he
      obtain ⟨i0, hi, hz0, hz1, hz2⟩ := info_parts Try.info47
      have hpool := HI.out.pool
      have hlp : f.pool.length ≤ 3000 := by have := HSM.out; unfold smallB at this; simp only [Bool.and_eq_true, decide_eq_true_eq] at this; exact this.1.1.1.1
      have hnone : Ap = none → f.pool.length = 0 := by rintro rfl; rw [CRow.none_nil hpool]; rfl
      go_enter Try.func7, Try.ntmps7
      go_wp2_with fail
      refine (shown_any _).mono ?_
      rintro e w1 ⟨rfl, hb⟩
      have BE1 := Lib.hid (Below.link BE0.out hb)
      have BF1 := Lib.hid (BF0.out.below hb (BF0.out.lt))
      have FL1 := Lib.hid (FL0.out.below hb (Nat.le_trans hB BE0.out.size))
      have lt1 := BF1.out.lt
      clear hb
      obtain ⟨c0, c1, c2, c3, c4, c5, c6⟩ := BF1.out.cells
      go_wp2_with fail
      refine (HS.out _ _ FL1.out (by omega)).mono ?_
      rintro e w2 ⟨rfl, hb⟩
      have BE2 := Lib.hid (Below.link BE1.out hb)
      have BF2 := Lib.hid (BF1.out.below hb (BF1.out.lt))
      have FL2 := Lib.hid (FL1.out.below hb (Nat.le_trans hB BE1.out.size))
      have lt2 := BF2.out.lt
      clear hb
      clear c0 c1 c2 c3 c4 c5 c6
      obtain ⟨c0, c1, c2, c3, c4, c5, c6⟩ := BF2.out.cells
      go_wp2_with fail
      refine (HR.out _ _ FL2.out (by omega)).mono ?_
      rintro e w3 ⟨rfl, hb⟩
      have BE3 := Lib.hid (Below.link BE2.out hb)
      have BF3 := Lib.hid (BF2.out.below hb (BF2.out.lt))
      have FL3 := Lib.hid (FL2.out.below hb (Nat.le_trans hB BE2.out.size))
      have lt3 := BF3.out.lt
      clear hb
      clear c0 c1 c2 c3 c4 c5 c6
      obtain ⟨c0, c1, c2, c3, c4, c5, c6⟩ := BF3.out.cells
      have hsrc := Lib.hid (fun (W : World) (h : ∀ p : Addr, p.block < B → W.cell? p = w.cell? p) (ad : Addr) (e : Ap = some ad) => CRow.src (by have := Row.keep hpool h; rw [e] at this; exact this))
      have OWN4 := Lib.hid (show ((w3.alloc (.cells #[.slice Ap f.pool.length cp, .int .i64 f.fl, .int .i64 f.this, .int .i64 f.super, .slice Ai f.ifs.length ci, .slice Af f.fds.length cf, .slice Am f.mts.length cm] 26)).alloc (.cells #[] 47)).ownsRow (w3.heap.size + 1) 47 6 (.slice (some ⟨w3.heap.size + 1, 0, none⟩) 0 0) 0 [] from ⟨rfl, .inr ⟨w3.heap.size + 1, 0, #[], rfl, Nat.le_refl _, by simpa using heap_alloc_new (w3.alloc (.cells #[.slice Ap f.pool.length cp, .int .i64 f.fl, .int .i64 f.this, .int .i64 f.super, .slice Ai f.ifs.length ci, .slice Af f.fds.length cf, .slice Am f.mts.length cm] 26)) (.cells #[] 47), Nat.le_refl _, by unfold maxLen; omega, rfl, rfl⟩⟩)
      go_wp2_with (at_builtin; refine wpList_append_own_src rfl (.tmp 34) (.tmp 36) 22 rfl (w3.heap.size + 1) 47 i0 (.agg #[.int .i64 0, .string ⟨#[]⟩, .int .i64 0, .int .i64 0, .int .i64 0, .int .i64 0]) 6 56 Try.underlying22 hi hz0 hz1 hz2 rfl (by decide) _ _ _ rfl OWN4.out Ap f.pool.length cp (f.pool.flatMap ccells) rfl (ccells_len _) hnone ?c1 (ccells_one _) ?c3 ?c4 ?c5 ?_)
      case c1 => exact fun ad e => hsrc.out _ (fun p hp => by have h := BE3.out.size; rw [World.cell?_alloc_lt _ _ p (by simp; omega), World.cell?_alloc_lt _ _ p (by omega)]; exact BE3.out.cell (p := p) (by omega)) ad e
      case c3 => unfold maxLen; omega
      case c4 => omega
      case c5 => simp
      intro v5 w5 own5 hg5
      have G5 := Lib.hid ((hg5.block w3.heap.size (by simp; omega) (fun h => by have := own_block_ge OWN4.out _ h.symm; omega)).trans (heap_alloc_lt (o := .cells #[] 47) (heap_new w3 (.cells #[.slice Ap f.pool.length cp, .int .i64 f.fl, .int .i64 f.this, .int .i64 f.super, .slice Ai f.ifs.length ci, .slice Af f.fds.length cf, .slice Am f.mts.length cm] 26))))
      have T5 := Lib.hid (((BE3.out.alloc BE3.out.size (.cells #[.slice Ap f.pool.length cp, .int .i64 f.fl, .int .i64 f.this, .int .i64 f.super, .slice Ai f.ifs.length ci, .slice Af f.fds.length cf, .slice Am f.mts.length cm] 26)).alloc (le_alloc BE3.out.size _) (.cells #[] 47)).grown hg5 (le_alloc (le_alloc BE3.out.size _) _) (fun k hk => by have := own_block_ge OWN4.out _ hk; have := BE3.out.size; omega))
      have U5 := Lib.hid ((((Below.refl w3.heap.size w3).alloc (Nat.le_refl _) (.cells #[.slice Ap f.pool.length cp, .int .i64 f.fl, .int .i64 f.this, .int .i64 f.super, .slice Ai f.ifs.length ci, .slice Af f.fds.length cf, .slice Am f.mts.length cm] 26)).alloc (by simp) (.cells #[] 47)).grown hg5 (by simp; omega) (fun k hk => by have := own_block_ge OWN4.out _ hk; omega))
      obtain ⟨a5, k5, rfl⟩ := own_form own5
      have hz5 := hg5.size
      simp at hz5
      have OWN5 := Lib.hid (show w5.ownsRow (w3.heap.size + 1) 47 6 (.slice a5 f.pool.length k5) f.pool.length (f.pool.flatMap ccells) by simpa using own5)
      clear own5 hg5
      go_wp2_with (at_builtin; refine wpList_append_own _ rfl (.tmp 37) (.tmp 40) 22 rfl (w3.heap.size + 1) 47 i0 (.agg #[.int .i64 0, .string ⟨#[]⟩, .int .i64 0, .int .i64 0, .int .i64 0, .int .i64 0]) 6 56 Try.underlying22 hi hz0 hz1 hz2 rfl (by decide) _ _ _ rfl (OWN5.out.alloc _) ⟨w5.heap.size, 0, none⟩ 1 1 [.int .i64 2, .string ⟨#[]⟩, .int .i64 n, .int .i64 0, .int .i64 0, .int .i64 0] rfl rfl ?d1 ?d2 ?d3 ?d4 ?d5 ?_)
      case d1 => intro j u hj; exact new_cells w5 [.int .i64 2, .string ⟨#[]⟩, .int .i64 n, .int .i64 0, .int .i64 0, .int .i64 0] 47 j u hj
      case d2 => intro u hu; simp at hu; rcases hu with rfl | rfl | rfl | rfl | rfl | rfl <;> rfl
      case d3 => unfold maxLen; omega
      case d4 => omega
      case d5 => simp; omega
      intro v6 w6 own6 hg6 _
      have G6 := Lib.hid ((hg6.block w3.heap.size (by simp; omega) (fun h => by have := own_block_ge OWN5.out _ h.symm; omega)).trans (heap_alloc_lt (o := .cells #[.int .i64 2, .string ⟨#[]⟩, .int .i64 n, .int .i64 0, .int .i64 0, .int .i64 0] 47) G5.out))
      have T6 := Lib.hid ((T5.out.alloc T5.out.size (.cells #[.int .i64 2, .string ⟨#[]⟩, .int .i64 n, .int .i64 0, .int .i64 0, .int .i64 0] 47)).grown hg6 (le_alloc T5.out.size _) (fun k hk => by have := own_block_ge OWN5.out _ hk; have := BE3.out.size; omega))
      have U6 := Lib.hid ((U5.out.alloc U5.out.size (.cells #[.int .i64 2, .string ⟨#[]⟩, .int .i64 n, .int .i64 0, .int .i64 0, .int .i64 0] 47)).grown hg6 (le_alloc U5.out.size _) (fun k hk => by have := own_block_ge OWN5.out _ hk; omega))
      obtain ⟨a6, k6, rfl⟩ := own_form own6
      have hz6 := hg6.size
      simp at hz6
      have own6s := ownsRow_setCell_other own6 (a := ⟨w3.heap.size, 0, none⟩) (own_ne own6 G6.out (by decide)) (.slice a6 (f.pool.length + 1) k6)
      have g0 : w6.cell? ⟨w3.heap.size, 0, none⟩ = some (.slice Ap f.pool.length cp) := cells_of G6.out 0
      have g1 : w6.cell? ⟨w3.heap.size, 1, none⟩ = some (.int .i64 f.fl) := cells_of G6.out 1
      have g2 : w6.cell? ⟨w3.heap.size, 2, none⟩ = some (.int .i64 f.this) := cells_of G6.out 2
      have g3 : w6.cell? ⟨w3.heap.size, 3, none⟩ = some (.int .i64 f.super) := cells_of G6.out 3
      have g4 : w6.cell? ⟨w3.heap.size, 4, none⟩ = some (.slice Ai f.ifs.length ci) := cells_of G6.out 4
      have g5 : w6.cell? ⟨w3.heap.size, 5, none⟩ = some (.slice Af f.fds.length cf) := cells_of G6.out 5
      have g6 : w6.cell? ⟨w3.heap.size, 6, none⟩ = some (.slice Am f.mts.length cm) := cells_of G6.out 6
      have f0 : w6.frozen? ⟨w3.heap.size, 0, none⟩ = false := free_of G6.out 0
      have hl6 := lt_of_block G6.out
      clear own6 hg6
      go_wp2_with fail
      obtain ⟨A', c', e', hcap', hmax', _⟩ := Row.of_own own6s (by unfold maxLen; omega)
      injection e' with e1 e2 e3
      subst e1 e3
      clear e2
      obtain ⟨w7, hw7⟩ : ∃ w7, w7 = w6.setCell ⟨w3.heap.size, 0, none⟩ (.slice a6 (f.pool.length + 1) k6) := ⟨_, rfl⟩
      have GM7 := Lib.hid (show w7.heap[w3.heap.size]? = some (.cells #[.slice a6 (f.pool.length + 1) k6, .int .i64 f.fl, .int .i64 f.this, .int .i64 f.super, .slice Ai f.ifs.length ci, .slice Af f.fds.length cf, .slice Am f.mts.length cm] 26 (0, 0)) by rw [hw7]; simpa using heap_set_eq (i := 0) (u := .slice a6 (f.pool.length + 1) k6) G6.out (by simp))
      rw [← hw7] at own6s
      have hl3 := BE3.out.size
      have BE7 := Lib.hid (show Below w.heap.size w w7 by rw [hw7]; exact T6.out.setCell (by simp; omega) _)
      have hB7 : B ≤ w7.heap.size := Nat.le_trans hB BE7.out.size
      have HI7 := HI.out.keep (w' := w7) (fun p hp => BE7.out.cell (p := p) (by omega))
      have own7 : w7.ownsRow (w3.heap.size + 1) 47 6 (.slice a6 (f.pool.length + 1) k6) (f.pool.length + 1) ((f.pool ++ [intC n]).flatMap ccells) := by rw [intC_cells]; exact own6s
      have GG7 := Lib.hid (FileAt.own_pool (cs := f.pool ++ [intC n]) HI7 hB7 own7 (by simp) hmax' hcap')
      have BF7 := Lib.hid (show FBox w.heap.size Ap cp Ai ci Af cf Am cm f w7 by
        rw [hw7]
        exact FBox.set (BF3.out.below U6.out lt3) (by simp; omega) _)
      have FL7 := Lib.hid (FL3.out.below (show Below w3.heap.size w3 w7 by rw [hw7]; exact U6.out.setCell (by simp) _) (Nat.le_trans hB BE3.out.size))
      have BG7 := Lib.hid (Below.refl w7.heap.size w7)
      have hlen : (f.pool ++ [intC n]).length = f.pool.length + 1 := by simp
      have GG7 := Lib.hid (show FileAt w7.heap.size w7 _ _ by have := GG7.out; rw [hlen] at this; exact this)
      have htx : Texts (f.pool ++ [intC n]) := by
        intro q hq
        rw [List.mem_append, List.mem_singleton] at hq
        rcases hq with hq | rfl
        · exact HTX.out q hq
        · show (⟨#[]⟩ : ByteArray).size ≤ _
          decide
      obtain ⟨gf, hgf⟩ : ∃ q : Fl, { f with pool := f.pool ++ [intC n] } = q := ⟨_, rfl⟩
      have htg : Texts gf.pool := by rw [← hgf]; exact htx
      obtain ⟨q1, q2, q3, q4⟩ := HGROW.out
      rw [hgf] at q1 q4 GG7
      have HRG := Lib.hid (fun V W hW hWB => Right_file (B := w7.heap.size) gf V W hW hWB htg)
      have HEG := Lib.hid (fun V W hW hWB => Encode_file (B := w7.heap.size) gf V W hW hWB htg)
      have HNG := Lib.hid (fun V W hW hWB i => Name_file (B := w7.heap.size) gf V W hW hWB i)
      have HTP := Lib.hid (show ∀ i, textP gf.pool i = textP f.pool i from fun i => by rw [← hgf]; exact textP_int)
      have HTT := Lib.hid (show ∀ i, tagged gf.pool i 1 = tagged f.pool i 1 from fun i => by rw [← hgf]; exact tagged_int)
      have HFG := Lib.hid (show (fileN gf).length = (fileN f).length + 9 by rw [← hgf]; exact fileN_grow f n)
      have Q2 := Lib.hid q2
      have Q3 := Lib.hid q3
      have Q4 := Lib.hid q4
      have Q1 := Lib.hid q1
      have ltg7 := lt_of_block GM7.out
      have lt7 := BF7.out.lt
      have HW7 := Lib.hid hw7
      rw [← hw7]
      clear hw7 htx htg hgf q1 q2 q3 q4 hlen own7 own6s HI7 c0 c1 c2 c3 c4 c5 c6 g0 g1 g2 g3 g4 g5 g6 f0 hsrc hi hz0 hz1 hz2
      obtain ⟨c0, c1, c2, c3, c4, c5, c6⟩ := BF7.out.cells
      have g0 := cells_of GM7.out 0
      have g1 := cells_of GM7.out 1
      have g2 := cells_of GM7.out 2
      have g3 := cells_of GM7.out 3
      have g4 := cells_of GM7.out 4
      have g5 := cells_of GM7.out 5
      have g6 := cells_of GM7.out 6
      simp at g0 g1 g2 g3 g4 g5 g6
      by_cases h2 : f.pool.length = 2000
      · have e2 : ((f.pool.length : Int) == 2000) = true := by rw [h2]; rfl
        have HQ := Q1.out
        rw [if_pos h2] at HQ
        rw [HQ] at HRG
        have hl2 : (2000 : Int) ≤ (f.pool.length : Int) ∧ (f.pool.length : Int) ≤ 2000 := by omega
        clear HQ h2
        skip
        refine (HRG.out _ _ GG7.out (Nat.le_refl _)).mono ?_
        rintro e w8 ⟨rfl, hb⟩
        have BE8 := Lib.hid (Below.link BE7.out hb)
        have BF8 := Lib.hid (BF7.out.below hb BF7.out.lt)
        have FL8 := Lib.hid (FL7.out.below hb (Nat.le_trans hB BE7.out.size))
        have GG8 := Lib.hid (GG7.out.below hb BG7.out.size)
        have BG8 := Lib.hid (Below.link BG7.out hb)
        have GM8 := Lib.hid (Below.keep hb (lt_of_block GM7.out) GM7.out)
        have ltg8 := lt_of_block GM8.out
        have lt8 := BF8.out.lt
        clear hb
        clear c0 c1 c2 c3 c4 c5 c6 g0 g1 g2 g3 g4 g5 g6
        obtain ⟨c0, c1, c2, c3, c4, c5, c6⟩ := BF8.out.cells
        have g0 := cells_of GM8.out 0
        have g1 := cells_of GM8.out 1
        have g2 := cells_of GM8.out 2
        have g3 := cells_of GM8.out 3
        have g4 := cells_of GM8.out 4
        have g5 := cells_of GM8.out 5
        have g6 := cells_of GM8.out 6
        simp at g0 g1 g2 g3 g4 g5 g6
        go_wp2
        go_ret
        exact ⟨rfl, BE8.out⟩
      · have e2 : ((f.pool.length : Int) == 2000) = false := by simp; omega
        have HQ := Q1.out
        rw [if_neg h2] at HQ
        obtain ⟨bt, hbt⟩ : ∃ b, encT f = b := ⟨_, rfl⟩
        obtain ⟨gt, hgt⟩ : ∃ b, encT gf = b := ⟨_, rfl⟩
        rw [hbt] at HE
        rw [hgt] at HEG
        have SZ := Lib.hid (show bt.size = (fileN f).length by rw [← hbt, Q2.out, size_mkB])
        have hs6 : bt.size ≤ 65536 := by rw [SZ.out]; exact Q3.out
        by_cases hL : 65536 < (fileN f).length + 9
        · rw [if_pos hL] at HQ
          rw [HQ] at HRG HEG
          have hbl : 65536 < (bt.size : Int) + 9 := by have := SZ.out; omega
          clear HQ h2 hL hbt hgt
          skip
          refine (HRG.out _ _ GG7.out (Nat.le_refl _)).mono ?_
          rintro e w8 ⟨rfl, hb⟩
          have BE8 := Lib.hid (Below.link BE7.out hb)
          have BF8 := Lib.hid (BF7.out.below hb BF7.out.lt)
          have FL8 := Lib.hid (FL7.out.below hb (Nat.le_trans hB BE7.out.size))
          have GG8 := Lib.hid (GG7.out.below hb BG7.out.size)
          have BG8 := Lib.hid (Below.link BG7.out hb)
          have GM8 := Lib.hid (Below.keep hb (lt_of_block GM7.out) GM7.out)
          have ltg8 := lt_of_block GM8.out
          have lt8 := BF8.out.lt
          clear hb
          clear c0 c1 c2 c3 c4 c5 c6 g0 g1 g2 g3 g4 g5 g6
          obtain ⟨c0, c1, c2, c3, c4, c5, c6⟩ := BF8.out.cells
          have g0 := cells_of GM8.out 0
          have g1 := cells_of GM8.out 1
          have g2 := cells_of GM8.out 2
          have g3 := cells_of GM8.out 3
          have g4 := cells_of GM8.out 4
          have g5 := cells_of GM8.out 5
          have g6 := cells_of GM8.out 6
          simp at g0 g1 g2 g3 g4 g5 g6
          go_wp2_with fail
          refine (HE.out _ _ FL8.out (Nat.le_trans hB BE8.out.size)).mono ?_
          rintro e w9 ⟨rfl, hb⟩
          have BE9 := Lib.hid (Below.link BE8.out hb)
          have BF9 := Lib.hid (BF8.out.below hb BF8.out.lt)
          have FL9 := Lib.hid (FL8.out.below hb (Nat.le_trans hB BE8.out.size))
          have GG9 := Lib.hid (GG8.out.below hb BG8.out.size)
          have BG9 := Lib.hid (Below.link BG8.out hb)
          have GM9 := Lib.hid (Below.keep hb (lt_of_block GM8.out) GM8.out)
          have ltg9 := lt_of_block GM9.out
          have lt9 := BF9.out.lt
          clear hb
          clear c0 c1 c2 c3 c4 c5 c6 g0 g1 g2 g3 g4 g5 g6
          obtain ⟨c0, c1, c2, c3, c4, c5, c6⟩ := BF9.out.cells
          have g0 := cells_of GM9.out 0
          have g1 := cells_of GM9.out 1
          have g2 := cells_of GM9.out 2
          have g3 := cells_of GM9.out 3
          have g4 := cells_of GM9.out 4
          have g5 := cells_of GM9.out 5
          have g6 := cells_of GM9.out 6
          simp at g0 g1 g2 g3 g4 g5 g6
          go_wp2_with fail
          refine (HEG.out _ _ GG9.out BG9.out.size).mono ?_
          rintro e w10 ⟨rfl, hb⟩
          have BE10 := Lib.hid (Below.link BE9.out hb)
          have BF10 := Lib.hid (BF9.out.below hb BF9.out.lt)
          have FL10 := Lib.hid (FL9.out.below hb (Nat.le_trans hB BE9.out.size))
          have GG10 := Lib.hid (GG9.out.below hb BG9.out.size)
          have BG10 := Lib.hid (Below.link BG9.out hb)
          have GM10 := Lib.hid (Below.keep hb (lt_of_block GM9.out) GM9.out)
          have ltg10 := lt_of_block GM10.out
          have lt10 := BF10.out.lt
          clear hb
          clear c0 c1 c2 c3 c4 c5 c6 g0 g1 g2 g3 g4 g5 g6
          obtain ⟨c0, c1, c2, c3, c4, c5, c6⟩ := BF10.out.cells
          have g0 := cells_of GM10.out 0
          have g1 := cells_of GM10.out 1
          have g2 := cells_of GM10.out 2
          have g3 := cells_of GM10.out 3
          have g4 := cells_of GM10.out 4
          have g5 := cells_of GM10.out 5
          have g6 := cells_of GM10.out 6
          simp at g0 g1 g2 g3 g4 g5 g6
          go_wp2
          go_ret
          exact ⟨rfl, BE10.out⟩
        · rw [if_neg hL] at HQ
          rw [HQ] at HRG HEG
          have hbl : (bt.size : Int) + 9 ≤ 65536 := by have := SZ.out; omega
          have hgs : gt.size = bt.size + 9 := by rw [← hgt, Q4.out h2 (by omega), size_mkB, HFG.out, SZ.out]
          have e9 : ((gt.size : Int) == (bt.size : Int) + 9) = true := by rw [hgs]; simp
          clear HQ h2 hL hbt hgt hgs
          skip
          refine (HRG.out _ _ GG7.out (Nat.le_refl _)).mono ?_
          rintro e w8 ⟨rfl, hb⟩
          have BE8 := Lib.hid (Below.link BE7.out hb)
          have BF8 := Lib.hid (BF7.out.below hb BF7.out.lt)
          have FL8 := Lib.hid (FL7.out.below hb (Nat.le_trans hB BE7.out.size))
          have GG8 := Lib.hid (GG7.out.below hb BG7.out.size)
          have BG8 := Lib.hid (Below.link BG7.out hb)
          have GM8 := Lib.hid (Below.keep hb (lt_of_block GM7.out) GM7.out)
          have ltg8 := lt_of_block GM8.out
          have lt8 := BF8.out.lt
          clear hb
          clear c0 c1 c2 c3 c4 c5 c6 g0 g1 g2 g3 g4 g5 g6
          obtain ⟨c0, c1, c2, c3, c4, c5, c6⟩ := BF8.out.cells
          have g0 := cells_of GM8.out 0
          have g1 := cells_of GM8.out 1
          have g2 := cells_of GM8.out 2
          have g3 := cells_of GM8.out 3
          have g4 := cells_of GM8.out 4
          have g5 := cells_of GM8.out 5
          have g6 := cells_of GM8.out 6
          simp at g0 g1 g2 g3 g4 g5 g6
          go_wp2_with fail
          refine (HE.out _ _ FL8.out (Nat.le_trans hB BE8.out.size)).mono ?_
          rintro e w9 ⟨rfl, hb⟩
          have BE9 := Lib.hid (Below.link BE8.out hb)
          have BF9 := Lib.hid (BF8.out.below hb BF8.out.lt)
          have FL9 := Lib.hid (FL8.out.below hb (Nat.le_trans hB BE8.out.size))
          have GG9 := Lib.hid (GG8.out.below hb BG8.out.size)
          have BG9 := Lib.hid (Below.link BG8.out hb)
          have GM9 := Lib.hid (Below.keep hb (lt_of_block GM8.out) GM8.out)
          have ltg9 := lt_of_block GM9.out
          have lt9 := BF9.out.lt
          clear hb
          clear c0 c1 c2 c3 c4 c5 c6 g0 g1 g2 g3 g4 g5 g6
          obtain ⟨c0, c1, c2, c3, c4, c5, c6⟩ := BF9.out.cells
          have g0 := cells_of GM9.out 0
          have g1 := cells_of GM9.out 1
          have g2 := cells_of GM9.out 2
          have g3 := cells_of GM9.out 3
          have g4 := cells_of GM9.out 4
          have g5 := cells_of GM9.out 5
          have g6 := cells_of GM9.out 6
          simp at g0 g1 g2 g3 g4 g5 g6
          go_wp2_with fail
          refine (HEG.out _ _ GG9.out BG9.out.size).mono ?_
          rintro e w10 ⟨rfl, hb⟩
          have BE10 := Lib.hid (Below.link BE9.out hb)
          have BF10 := Lib.hid (BF9.out.below hb BF9.out.lt)
          have FL10 := Lib.hid (FL9.out.below hb (Nat.le_trans hB BE9.out.size))
          have GG10 := Lib.hid (GG9.out.below hb BG9.out.size)
          have BG10 := Lib.hid (Below.link BG9.out hb)
          have GM10 := Lib.hid (Below.keep hb (lt_of_block GM9.out) GM9.out)
          have ltg10 := lt_of_block GM10.out
          have lt10 := BF10.out.lt
          clear hb
          clear c0 c1 c2 c3 c4 c5 c6 g0 g1 g2 g3 g4 g5 g6
          obtain ⟨c0, c1, c2, c3, c4, c5, c6⟩ := BF10.out.cells
          have g0 := cells_of GM10.out 0
          have g1 := cells_of GM10.out 1
          have g2 := cells_of GM10.out 2
          have g3 := cells_of GM10.out 3
          have g4 := cells_of GM10.out 4
          have g5 := cells_of GM10.out 5
          have g6 := cells_of GM10.out 6
          simp at g0 g1 g2 g3 g4 g5 g6
          go_wp2_with fail
          refine (pick_any c ((f.pool.length : Int) + 1) hc1 hc2 (by omega) (by omega) _).mono ?_
          rintro e w11 ⟨r, rfl, hr0, hr1, hb⟩
          have BE11 := Lib.hid (Below.link BE10.out hb)
          have BF11 := Lib.hid (BF10.out.below hb BF10.out.lt)
          have FL11 := Lib.hid (FL10.out.below hb (Nat.le_trans hB BE10.out.size))
          have GG11 := Lib.hid (GG10.out.below hb BG10.out.size)
          have BG11 := Lib.hid (Below.link BG10.out hb)
          have GM11 := Lib.hid (Below.keep hb (lt_of_block GM10.out) GM10.out)
          have ltg11 := lt_of_block GM11.out
          have lt11 := BF11.out.lt
          clear hb
          clear c0 c1 c2 c3 c4 c5 c6 g0 g1 g2 g3 g4 g5 g6
          obtain ⟨c0, c1, c2, c3, c4, c5, c6⟩ := BF11.out.cells
          have g0 := cells_of GM11.out 0
          have g1 := cells_of GM11.out 1
          have g2 := cells_of GM11.out 2
          have g3 := cells_of GM11.out 3
          have g4 := cells_of GM11.out 4
          have g5 := cells_of GM11.out 5
          have g6 := cells_of GM11.out 6
          simp at g0 g1 g2 g3 g4 g5 g6
          go_wp2_with fail
          refine (HN.out _ _ FL11.out (Nat.le_trans hB BE11.out.size) r).mono ?_
          rintro e w12 ⟨rfl, hb⟩
          have BE12 := Lib.hid (Below.link BE11.out hb)
          have BF12 := Lib.hid (BF11.out.below hb BF11.out.lt)
          have FL12 := Lib.hid (FL11.out.below hb (Nat.le_trans hB BE11.out.size))
          have GG12 := Lib.hid (GG11.out.below hb BG11.out.size)
          have BG12 := Lib.hid (Below.link BG11.out hb)
          have GM12 := Lib.hid (Below.keep hb (lt_of_block GM11.out) GM11.out)
          have ltg12 := lt_of_block GM12.out
          have lt12 := BF12.out.lt
          clear hb
          clear c0 c1 c2 c3 c4 c5 c6 g0 g1 g2 g3 g4 g5 g6
          obtain ⟨c0, c1, c2, c3, c4, c5, c6⟩ := BF12.out.cells
          have g0 := cells_of GM12.out 0
          have g1 := cells_of GM12.out 1
          have g2 := cells_of GM12.out 2
          have g3 := cells_of GM12.out 3
          have g4 := cells_of GM12.out 4
          have g5 := cells_of GM12.out 5
          have g6 := cells_of GM12.out 6
          simp at g0 g1 g2 g3 g4 g5 g6
          have HNGR := Lib.hid (show Calls Try.prog 16 #[_, .int .i64 r] w12 fun e w' => e = .returned (.tuple #[.string (textP f.pool r), .bool (tagged f.pool r 1)]) ∧ Below w12.heap.size w12 w' by have := HNG.out _ _ GG12.out BG12.out.size r; rw [HTP.out, HTT.out] at this; exact this)
          go_wp2_with fail
          refine HNGR.out.mono ?_
          rintro e w13 ⟨rfl, hb⟩
          have BE13 := Lib.hid (Below.link BE12.out hb)
          clear hb
          go_wp2
          go_ret
          exact ⟨rfl, BE13.out⟩
    · have hne := ne_beq he
      go_enter Try.func7, Try.ntmps7
      go_wp2_with fail
      refine (shown_any _).mono ?_
      rintro e w1 ⟨rfl, hb⟩
      have BE1 := Lib.hid (Below.link BE0.out hb)
      have BF1 := Lib.hid (BF0.out.below hb (BF0.out.lt))
      have FL1 := Lib.hid (FL0.out.below hb (Nat.le_trans hB BE0.out.size))
      have lt1 := BF1.out.lt
      clear hb
      obtain ⟨c0, c1, c2, c3, c4, c5, c6⟩ := BF1.out.cells
      go_wp2_with fail
      refine (HS.out _ _ FL1.out (by omega)).mono ?_
      rintro e w2 ⟨rfl, hb⟩
      have BE2 := Lib.hid (Below.link BE1.out hb)
      have BF2 := Lib.hid (BF1.out.below hb (BF1.out.lt))
      have FL2 := Lib.hid (FL1.out.below hb (Nat.le_trans hB BE1.out.size))
      have lt2 := BF2.out.lt
      clear hb
      clear c0 c1 c2 c3 c4 c5 c6
      obtain ⟨c0, c1, c2, c3, c4, c5, c6⟩ := BF2.out.cells
      go_wp2_with fail
      refine (HR.out _ _ FL2.out (by omega)).mono ?_
      rintro e w3 ⟨rfl, hb⟩
      have BE3 := Lib.hid (Below.link BE2.out hb)
      have BF3 := Lib.hid (BF2.out.below hb (BF2.out.lt))
      have FL3 := Lib.hid (FL2.out.below hb (Nat.le_trans hB BE2.out.size))
      have lt3 := BF3.out.lt
      clear hb
      clear c0 c1 c2 c3 c4 c5 c6
      obtain ⟨c0, c1, c2, c3, c4, c5, c6⟩ := BF3.out.cells
      go_wp2
      go_ret
      exact ⟨rfl, BE3.out⟩
end Go.Proofs.Ytcgloepfnnfioaa
