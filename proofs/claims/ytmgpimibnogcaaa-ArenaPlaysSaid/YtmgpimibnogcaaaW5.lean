/-
  WALKS of the arena: is, body, poison, isBody.
-/
import Derived.Test.YtmgpimibnogcaaaW4
set_option linter.unusedVariables false
set_option linter.unusedSimpArgs false
namespace Go.Proofs.Ytmgpimibnogcaaa
open Go.RowKit

/-- Is a block there, in that state? -/
def isW (ws : List Int) (ah : List Nat) (st at_ : Int) : Bool := decide (0 < at_) && decide (0 < ah[at_.toNat]?.getD 0) && decide ((ws[at_.toNat]?.getD 0) % 2 = st)
/-- Where a block begins there is a head. -/
def Good (ws : List Int) (ah : List Nat) : Prop := ∀ (a k : Nat), ah[a]? = some k → 0 < k → ∃ v, ws[a]? = some v ∧ 0 ≤ v ∧ v < 2097152
set_option maxRecDepth 1000000 in
set_option maxHeartbeats 6400000 in
theorem is_any (q p b : Nat) (ws : List Int) (ah : List Nat) (P : Nat → Prop) (w : World) (h : Mem q p b ws ah P w) (hg : Good ws ah) (st at_ : Int) :
    Calls Try.prog 43 #[.pointer (some ⟨q, 0, none⟩), .int .i64 st, .int .i64 at_] w fun e w' => e = .returned (.bool (isW ws ah st at_)) ∧ w' = w := by
  obtain ⟨bs, fr, hab, hah, hfl, hh⟩ := h
  have hn2 := hab.n2
  have c0 := hab.box0
  have c3 := hab.box1
  obtain ⟨l1, l2, l3⟩ := hab.lt
  have HW := Lib.hid (show isW ws ah st at_ = (decide (0 < at_) && decide (0 < ah[at_.toNat]?.getD 0) && decide ((ws[at_.toNat]?.getD 0) % 2 = st)) from rfl)
  generalize isW ws ah st at_ = R at *
  have hal : ah.length = ws.length := by rw [← hah, List.length_map, hab.bl]
  by_cases h0 : 0 < at_
  · obtain ⟨a, rfl⟩ : ∃ a : Nat, at_ = a := ⟨at_.toNat, by omega⟩
    have h0' : 0 < a := by omega
    rw [Int.toNat_natCast] at HW
    by_cases h1 : a < ws.length
    · have h1i : (a : Int) < (ws.length : Int) := by omega
      obtain ⟨x, hx⟩ : ∃ x, bs[a]? = some x := ⟨_, List.getElem?_eq_getElem (by rw [hab.bl]; exact h1)⟩
      have hax : ah[a]? = some x.ah := by rw [← hah, List.getElem?_map, hx]; rfl
      obtain ⟨k0, k1, k2⟩ := hab.bk3 hx
      by_cases h2 : 0 < x.ah
      · obtain ⟨v, hv, hv0, hv1⟩ := hg a _ hax h2
        have HS := Lib.hid (state_any hab a v hv hv0 (by omega))
        have HR := Lib.hid (show R = decide (v % 2 = st) by rw [HW.out, hax, hv]; simp [h0', h2])
        have h2i : (0 : Int) < (x.ah : Int) := by omega
        clear HW hab hah hfl hh hg hx hax hv hal h1
        generalize ws.length = n at *
        by_cases h3 : v % 2 = st
        · have z : (v % 2 == st) = true := by rw [h3]; simp
          rw [decide_eq_true h3] at HR
          clear h3
          go_enter Try.func43, Try.ntmps43
          go_wp2_with fail
          refine (HS.out).mono ?_
          rintro e w' ⟨rfl, rfl⟩
          go_wp2
          go_ret
          exact ⟨by rw [HR.out]; rfl, rfl⟩
        · have z : (v % 2 == st) = false := by rw [beq_eq_false_iff_ne]; exact h3
          rw [decide_eq_false h3] at HR
          clear h3
          go_enter Try.func43, Try.ntmps43
          go_wp2_with fail
          refine (HS.out).mono ?_
          rintro e w' ⟨rfl, rfl⟩
          go_wp2
          go_ret
          exact ⟨by rw [HR.out]; rfl, rfl⟩
      · have HR := Lib.hid (show R = false by rw [HW.out, hax]; simp [h2])
        have h2i : ¬ (0 : Int) < (x.ah : Int) := by omega
        have h2e : (x.ah : Int) = 0 := by omega
        have k0' : w.cell? ⟨b, a * 3, none⟩ = some (.int .i64 0) := by rw [k0, h2e]
        clear HW hab hah hfl hh hg hx hax hal h1 h2 h2i h2e k0
        generalize ws.length = n at *
        go_enter Try.func43, Try.ntmps43
        go_wp2
        go_ret
        exact ⟨by rw [HR.out]; rfl, rfl⟩
    · have HR := Lib.hid (show R = false by rw [HW.out, List.getElem?_eq_none (by rw [hal]; omega)]; simp)
      have h1i : ¬ (a : Int) < (ws.length : Int) := by omega
      have h1j : (ws.length : Int) ≤ (a : Int) := by omega
      clear HW hab hah hfl hh hg hal h1
      generalize ws.length = n at *
      go_enter Try.func43, Try.ntmps43
      go_wp2
      go_ret
      exact ⟨by rw [HR.out]; rfl, rfl⟩
  · have HR := Lib.hid (show R = false by rw [HW.out, decide_eq_false h0]; rfl)
    have h0i : at_ ≤ 0 := by omega
    clear HW hab hah hfl hh hg hal h0
    go_enter Try.func43, Try.ntmps43
    go_wp2
    go_ret
    exact ⟨by rw [HR.out]; rfl, rfl⟩
set_option maxRecDepth 1000000 in
set_option maxHeartbeats 6400000 in
theorem body_any {q p b : Nat} {ws : List Int} {bs : List Bk} {fr : List Nat} {w : World} (h : AB q p b ws bs fr w) (a : Nat) (v : Int) (hv : ws[a]? = some v) (hv0 : 4 ≤ v) (hv1 : v < 2097152) (hl : a + szW ws a ≤ ws.length) :
    Calls Try.prog 42 #[.pointer (some ⟨q, 0, none⟩), .int .i64 (a : Int)] w fun e w' => e = .returned (.slice (some ⟨p, a + 1, none⟩) (szW ws a - 1) (ws.length - (a + 1))) ∧ ∃ n, w' = w.drewN n := by
  have hsv := szW_of hv (by omega)
  have hs1 : 2 ≤ szW ws a := by omega
  have HS := Lib.hid (fun W (h : AB q p b ws bs fr W) => size_any h a v hv (by omega) (by omega))
  have AB0 := Lib.hid h
  have hn2 := h.n2
  have c0 := h.box0
  obtain ⟨l1, l2, l3⟩ := h.lt
  clear hsv
  generalize szW ws a = S at *
  clear h hv
  generalize ws.length = n at *
  have q0 : a + 1 < n := by omega
  have q5 : ¬ n - (a + 1) = 0 := by omega
  have q6 : 0 < n - (a + 1) := by omega
  have q1 : (a : Int) + 1 ≤ (a : Int) + S := by omega
  have q2 : (a : Int) + S ≤ n := by omega
  have q3 : (((a : Int) + S) - ((a : Int) + 1)).toNat = S - 1 := by omega
  have q4 : ((n : Int) - ((a : Int) + 1)).toNat = n - (a + 1) := by omega
  go_enter Try.func42, Try.ntmps42
  go_wp2
  go_quiet ((go_at_call 40; exact Calls.quiet_of_same (HS.out _ (AB0.out.drewN _))))
  go_wp2
  go_ret
  rw [show S - 1 = a + S - (a + 1) by omega]
  exact ⟨rfl, _, rfl⟩
/-- So many words from a place on are v. -/
def fillN (v : Int) (ws : List Int) (o : Nat) : Nat → List Int
  | 0 => ws
  | k + 1 => (fillN v ws o k).set (o + k) v
theorem fillN_len (v : Int) (ws : List Int) (o : Nat) : ∀ k, (fillN v ws o k).length = ws.length
  | 0 => rfl
  | k + 1 => by rw [fillN, List.length_set, fillN_len v ws o k]
theorem fillN_out (v : Int) (ws : List Int) (o : Nat) : ∀ (k x : Nat), (x < o ∨ o + k ≤ x) → (fillN v ws o k)[x]? = ws[x]?
  | 0, x, _ => rfl
  | k + 1, x, h => by
    rw [fillN, List.getElem?_set_ne (by omega)]
    exact fillN_out v ws o k x (by omega)
theorem fillN_in (v : Int) (ws : List Int) (o : Nat) : ∀ (k x : Nat), o ≤ x → x < o + k → o + k ≤ ws.length → (fillN v ws o k)[x]? = some v
  | 0, x, h1, h2, _ => by omega
  | k + 1, x, h1, h2, h3 => by
    rw [fillN]
    by_cases h : o + k = x
    · subst h
      exact List.getElem?_set_self (by rw [fillN_len]; omega)
    · rw [List.getElem?_set_ne h]
      exact fillN_in v ws o k x h1 (by omega) (by omega)
set_option maxRecDepth 1000000 in
set_option maxHeartbeats 6400000 in
theorem poison_any {q p b : Nat} {ws : List Int} {bs : List Bk} {fr : List Nat} {w : World} (h : AB q p b ws bs fr w) (o m cap : Nat) (ho : o + m ≤ ws.length) :
    Calls Try.prog 27 #[.slice (some ⟨p, o, none⟩) m cap] w fun e w' => e = .returned (.tuple #[]) ∧ AB q p b (fillN PZ ws o m) bs fr w' ∧ Upd [p] w w' := by
  have hn2 := h.n2
  have AB0 := Lib.hid h
  have HO := Lib.hid ho
  have hm : m ≤ 1048576 := by omega
  clear h ho
  go_enter Try.func27, Try.ntmps27
  go_wp2
  go_loopg [5] m (fun g iv wx => ∃ k : Nat, iv = .int .i64 (k : Int) ∧ k + g = m ∧ AB q p b (fillN PZ ws o k) bs fr wx ∧ Upd [p] w wx)
  case atStart => exact ⟨0, rfl, by omega, AB0.out, Upd.refl _ _⟩
  case round =>
    obtain ⟨k, rfl, hkg, hab, hu⟩ := hrel
    have AB1 := Lib.hid hab
    have U1 := Lib.hid hu
    by_cases hk : k < m
    · have hkm : (k : Int) < (m : Int) := by omega
      have hgg : gk - 1 < gk := by omega
      obtain ⟨v, hv⟩ : ∃ v, (fillN PZ ws o k)[o + k]? = some v := ⟨_, List.getElem?_eq_getElem (by rw [fillN_len]; have := HO.out; omega)⟩
      have c1 := hab.word hv
      have hf := (hab.frozen (o + k)).2.1
      obtain ⟨l1, l2, l3⟩ := hab.lt
      have AB2 := Lib.hid (hab.set_word (o + k) PZ)
      clear hab hu hv
      unfold PZ at AB2
      go_wp2
      go_roundg (gk - 1)
      case measure => exact hgg
      case rel => exact ⟨k + 1, by go_num, by omega, AB2.out, U1.out.trans (Upd.set (by simp))⟩
    · obtain rfl : k = m := by omega
      clear hab hu
      go_wp2
      go_end0
      exact ⟨rfl, AB1.out, U1.out⟩
end Go.Proofs.Ytmgpimibnogcaaa
