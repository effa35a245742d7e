/-
  WALK of appendMap: a map is written behind bytes.
-/
import Derived.Test.YtgepgbpjdjbelaaRf
import Derived.Deep.LoopGhost
set_option linter.unusedVariables false
set_option linter.unusedSimpArgs false
namespace Go.Proofs.Ytgepgbpjdjbelaa
open Go.RowKit

theorem run_append_none' {P : Program} {w : World} (base : Nat) (t ty e : TypeId) (i : TypeInfo) (size c : Nat) (ht : P.underlying t = some (.slice e)) (hi : P.info? e = some i)
    (v : Value) (n : Nat) (xs : List Value) (hown : w.ownsRow base e size v n xs) :
    (Builtin.append_ #[t, t] ty #[v, .slice none 0 c]).run P w = .ok v w := by
  rcases hown.2 with ⟨rfl, rfl⟩ | ⟨g, cap, cur, rfl, _, _, hnc, _⟩
  · simp [Builtin.append_, run_underlying ht, sizeOf, typeInfo, hi, Builtin.lenOf, Builtin.firstCells]
  · simp [Builtin.append_, run_underlying ht, sizeOf, typeInfo, hi, Builtin.lenOf, Builtin.firstCells, hnc, storeCells]
theorem grownBy_refl (w : World) (row : Option Nat) : w.grownBy w row := ⟨rfl, rfl, rfl, Nat.le_refl _, fun _ _ _ => rfl⟩
/-- append of a row that may be nil. -/
theorem wpList_append_own_src {P : Program} {w : World} {ops : Array Oper} {rest : List Oper} {o : Oper} {a : Act} {Q : Exit → Act → World → Prop} (hgd : o.guard = none) (s x : Operand) (t : TypeId)
    (ho : o.op = .call { callee := .builtin .append, args := #[s, x], argTypes := #[t, t] })
    (base : Nat) (e : TypeId) (i : TypeInfo) (z : Value) (size bytes : Nat) (ht : P.underlying t = some (.slice e)) (hi : P.info? e = some i) (hz : i.zero = some z)
    (hsize : i.size = size) (hby : i.bytes = bytes) (hzs : z.cells.size = size) (hsz : 0 < size)
    (v : Value) (n : Nat) (xs : List Value) (hs : a.eval s = v) (hown : w.ownsRow base e size v n xs)
    (A : Option Addr) (m c : Nat) (news : List Value) (hx : a.eval x = .slice A m c) (hl : news.length = m * size) (hA : A = none → m = 0) (hnews : ∀ ad, A = some ad → ∀ j u, news[j]? = some u → w.cell? (ad.add j) = some u) (h1 : ∀ u ∈ news, u.oneCell' = true)
    (h63 : n + m ≤ maxLen) (hbytes : (n + m) * bytes ≤ 140737488355328) (hbase : base ≤ w.heap.size)
    (h : ∀ v' w', w'.ownsRow base e size v' (n + m) (xs ++ news) → w.grownBy w' v.ownBlock → wpList P ops Q rest (a.put o.dst v') w') : wpList P ops Q (o :: rest) a w := by
  cases A with
  | none =>
    obtain rfl := hA rfl
    have hn : news = [] := List.eq_nil_of_length_eq_zero (by simpa using hl)
    subst hn
    refine wpList_plain hgd fun K hK => ?_
    have hrun := run_append_none' (P := P) (w := w) base t o.type e i size c ht hi v n xs hown
    unfold Oper.wp
    simp [execOp, ho, resolve, invoke, builtin, hs, hx, hrun, Result.andThen]
    exact hK _ _ (h v w (by simpa using hown) (grownBy_refl _ _))
  | some ad => exact wpList_append_own w hgd s x t ho base e i z size bytes ht hi hz hsize hby hzs hsz v n xs hs hown ad m c news hx hl (hnews ad rfl) h1 h63 hbytes hbase fun v' w' h2 h3 _ => h v' w' h2 h3
theorem info5' : ∃ i, Try.prog.info? 5 = some i ∧ i.zero = some (.int .u8 0) ∧ i.size = 1 ∧ i.bytes = 1 := info_parts (by kernel_rfl)
theorem new_at (w : World) (cs : List Value) (t : TypeId) : ∀ j u, cs[j]? = some u → (w.alloc (.cells cs.toArray t)).cell? (({ block := w.heap.size, off := 0 } : Addr).add j) = some u := new_cells w cs t
theorem own_news {w : World} {base : Nat} {e : TypeId} {A : Option Addr} {n c : Nat} {xs : List Value} (h : w.ownsRow base e 1 (.slice A n c) n xs) : (A = Option.none → n = 0) ∧ ∀ ad, A = some ad → ∀ j u, xs[j]? = some u → w.cell? (ad.add j) = some u := by
  rcases h.2 with ⟨h0, rfl⟩ | ⟨g, cap, cur, hv, rest⟩
  · refine ⟨fun _ => rfl, fun ad ha j u hu => ?_⟩
    have := h.1
    have hx : xs = [] := List.eq_nil_of_length_eq_zero (by simpa using this)
    rw [hx] at hu
    simp at hu
  · have hA : A = some ⟨g, 0, none⟩ := by injection hv
    subst hA
    refine ⟨(fun hn => by cases hn), (fun ad ha j u hu => ?_)⟩
    injection ha with ha
    subst ha
    exact h.cells (g := g) rfl j u hu
set_option maxRecDepth 1000000 in
set_option maxHeartbeats 6400000 in
theorem appendMap_any (m : MP) (A1 A2 : Option Addr) (c1 c2 B base : Nat) (v : Value) (l : List UInt8) (w : World) (r1 : BRow B w (.slice A1 m.1.length c1) m.1) (r2 : BRow B w (.slice A2 m.2.length c2) m.2) (hB : B ≤ base) (hown : OwnB w base v l) (hb : base ≤ w.heap.size) (hl : l.length ≤ 1000000) (hf : Fit m) :
    Calls Try.prog 23 #[v, .agg #[.slice A1 m.1.length c1, .slice A2 m.2.length c2]] w fun e w' => ∃ v', e = .returned v' ∧ OwnB w' base v' (l ++ packM m) ∧ Kept 5 base w w' := by
  obtain ⟨a1, a2⟩ := m
  obtain ⟨h1, h2⟩ := hf
  simp only at r1 r2 h1 h2 ⊢
  obtain ⟨i0, hi, hz0, hz1, hz2⟩ := info5'
  have R1 := Lib.hid r1
  have R2 := Lib.hid r2
  have HO := Lib.hid hown
  have HPM := Lib.hid (show packM (a1, a2) = [UInt8.ofNat a1.length, UInt8.ofNat a2.length] ++ packB (a1 ++ a2) from rfl)
  have HPL := Lib.hid (packB_len (a1 ++ a2))
  have HLN := Lib.hid (show (a1 ++ a2).length = a1.length + a2.length from List.length_append)
  have hn1 : (a1.length : Int) % 256 = (a1.length : Int) := by omega
  have hn2 : (a2.length : Int) % 256 = (a2.length : Int) := by omega
  have HU := Lib.hid (show ucells [UInt8.ofNat a1.length, UInt8.ofNat a2.length] = [.int .u8 (a1.length : Int), .int .u8 (a2.length : Int)] by
    unfold ucells
    simp only [List.map_cons, List.map_nil, UInt8.toNat_ofNat', List.cons.injEq, Value.int.injEq, true_and, and_true]
    constructor <;> omega)
  clear r1 r2 hown
  go_enter Try.func23, Try.ntmps23
  go_wp2_with (at_builtin; refine wpList_append_own _ rfl (.tmp 5) (.tmp 14) 59 rfl base 5 i0 (.int .u8 0) 1 1 und59 hi hz0 hz1 hz2 rfl (by decide) v l.length _ rfl (World.ownsRow.alloc (World.ownsRow.alloc HO.out.app _) _) ⟨_, 0, none⟩ 2 2 [.int .u8 (a1.length : Int), .int .u8 (a2.length : Int)] rfl rfl ?a1 ?b1 ?c1 ?d1 ?e1 ?_)
  case a1 =>
    have := new_at (w.alloc (.cells #[.slice A1 a1.length c1, .slice A2 a2.length c2] 27)) [.int .u8 (a1.length : Int), .int .u8 (a2.length : Int)] 5
    rwa [World.size_alloc] at this
  case b1 => exact int_cells .u8 [(a1.length : Int), (a2.length : Int)]
  case c1 => unfold maxLen; omega
  case d1 => omega
  case e1 => simp; omega
  intro v1 w1 hown' hgrow _
  have K1 := ((Kept.refl 5 base w).alloc hb (.cells #[.slice A1 a1.length c1, .slice A2 a2.length c2] 27)).alloc (by simp; omega) (.cells #[.int .u8 (a1.length : Int), .int .u8 (a2.length : Int)] 5) |>.trans (own_grown (World.ownsRow.alloc (World.ownsRow.alloc HO.out.app _) _) (by simp; omega) hgrow)
  have bx := (own_grown (World.ownsRow.alloc (World.ownsRow.alloc HO.out.app (.cells #[.slice A1 a1.length c1, .slice A2 a2.length c2] 27)) (.cells #[.int .u8 (a1.length : Int), .int .u8 (a2.length : Int)] 5)) (by simp; omega) hgrow).other _ _ _ _ (by decide) (heap_alloc_lt (o := .cells #[.int .u8 (a1.length : Int), .int .u8 (a2.length : Int)] 5) (heap_new w (.cells #[.slice A1 a1.length c1, .slice A2 a2.length c2] 27)))
  have hz1w := K1.size
  have m1 := cells_of bx 0
  have m2 := cells_of bx 1
  simp only [List.getElem?_toArray, List.getElem?_cons_succ, List.getElem?_cons_zero] at m1 m2
  have mlt := lt_of_block bx
  have OW1 := Lib.hid hown'
  have HK1 := Lib.hid K1
  have Q1 := Lib.hid (R1.out.below K1.below hB)
  have Q2 := Lib.hid (R2.out.below K1.below hB)
  obtain ⟨av, cv, rfl⟩ := own_form hown'
  clear hgrow hown' K1 bx R1 R2
  go_wp2_with fail
  refine (packed_any a1 a2 A1 A2 c1 c2 B w1 Q1.out Q2.out (by omega) h1 h2).mono ?_
  rintro e w2 ⟨v5, rfl, hown5, hb5⟩
  have hz2w := hb5.size
  have OW2 := Lib.hid (own_below OW1.out hb5)
  have HK2 := Lib.hid (HK1.out.link (by omega) hb5)
  obtain ⟨A5, c5, rfl⟩ := hown5.form
  obtain ⟨hA5, hn5⟩ := own_news hown5
  have HA5 := Lib.hid hA5
  have HN5 := Lib.hid hn5
  obtain ⟨pb, hpb⟩ : ∃ p, packB (a1 ++ a2) = p := ⟨_, rfl⟩
  rw [hpb] at HA5 HN5 HPM HPL ⊢
  have hpl : pb.length ≤ 16 := by rw [HPL.out, HLN.out]; unfold szB; omega
  have UL := Lib.hid (ucells_len pb)
  have UO := Lib.hid (ucells_one pb)
  clear hown5 hb5 hA5 hn5 OW1 HK1 Q1 Q2 hpb
  go_wp2_with (at_builtin; refine wpList_append_own_src rfl (.tmp 16) (.tmp 18) 59 rfl base 5 i0 (.int .u8 0) 1 1 und59 hi hz0 hz1 hz2 rfl (by decide) (.slice av (l.length + 2) cv) (l.length + 2) _ rfl OW2.out A5 pb.length c5 (ucells pb) rfl ?a2 ?b2 ?c2 ?d2 ?e2 ?f2 ?g2 ?_)
  case a2 => rw [UL.out, Nat.mul_one]
  case b2 => exact HA5.out
  case c2 => exact HN5.out
  case d2 => exact UO.out
  case e2 => unfold maxLen; omega
  case f2 => omega
  case g2 => omega
  intro v3 w3 hown3 hgrow3
  have K3 := Lib.hid (HK2.out.trans (own_grown OW2.out (by omega) hgrow3))
  have OW3 := Lib.hid hown3
  clear hown3 hgrow3
  go_wp2
  go_ret
  refine ⟨_, rfl, ?_, K3.out⟩
  rw [HPM.out]
  have := OW3.out
  unfold OwnB
  rw [List.length_append, List.length_append, ucells_app, ucells_app, HU.out, ← List.append_assoc]
  rw [Nat.add_assoc] at this
  rw [List.append_assoc]
  exact this
end Go.Proofs.Ytgepgbpjdjbelaa
