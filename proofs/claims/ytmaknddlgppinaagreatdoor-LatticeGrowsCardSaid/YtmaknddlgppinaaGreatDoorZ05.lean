/-
  CUT and joined from the texts of this seat: Rd Ho Hk
-/
import Derived.Test.YtmaknddlgppinaaGreatDoorRows
import Derived.Test.YtmaknddlgppinaaGreatDoorZ04
import Derived.WalkKit
import Derived.WalkSpells
import Derived.WalkLawsBesides
import Derived.Below
import Derived.Laws.OwnMore
import Derived.Deep.AppendLies
import Derived.Deep.Draws
import Derived.Lib.Hide
import Derived.Maps.OwnSet
set_option linter.unusedVariables false
set_option linter.unusedSimpArgs false
namespace Go.Proofs.YtmaknddlgppinaaGreatDoor
open Go.RowKit
theorem add_of_add (a : Addr) (i j : Nat) : (a.add i).add j = a.add (i + j) := by
 unfold Addr.add
 by_cases hi : i = 0 <;> by_cases hj : j = 0 <;> simp [hi, hj, Nat.add_assoc]
theorem plain_add (b o j : Nat) : ({ block := b, off := o } : Addr).add j = ⟨b, o + j, none⟩ := by
 unfold Addr.add
 by_cases h : j = 0 <;> simp [h]
/-- The slice's first n elements, each of so many cells, are the cells xs; they lie below block B. -/
def Reads (w : World) (B size : Nat) (A : Option Addr) (n : Nat) (xs : List Value) : Prop :=
 xs.length = n * size ∧ (0 < n → ∃ b o, A = some ⟨b, o, none⟩ ∧ b < B ∧ ∀ j u, xs[j]? = some u → w.cell? ⟨b, o + j, none⟩ = some u)
section
variable {w w' : World} {B B' size n : Nat} {A : Option Addr} {xs : List Value}
theorem Reads.keep (h : Reads w B size A n xs) (hk : ∀ p : Addr, p.block < B → w'.cell? p = w.cell? p) : Reads w' B size A n xs :=
 ⟨h.1, fun hn => by
  obtain ⟨b, o, e, hb, hc⟩ := h.2 hn
  exact ⟨b, o, e, hb, fun j u hu => (hk _ hb).trans (hc j u hu)⟩⟩
theorem Reads.more (h : Reads w B size A n xs) (hB : B ≤ B') : Reads w B' size A n xs :=
 ⟨h.1, fun hn => by
  obtain ⟨b, o, e, hb, hc⟩ := h.2 hn
  exact ⟨b, o, e, by omega, hc⟩⟩
theorem Reads.below (h : Reads w B size A n xs) (hb : Below B w w') : Reads w' B size A n xs := h.keep fun _ hp => hb.cell hp
theorem Reads.of_own {base : Nat} {e : TypeId} {c : Nat} (h : w.ownsRow base e size (.slice A n c) n xs) : Reads w w.heap.size size A n xs := by
 refine ⟨h.1, fun hn => ?_⟩
 obtain ⟨g, cap, hv, _, hlt⟩ := h.form hn
 have hA : A = some ⟨g, 0, none⟩ := by injection hv
 subst hA
 refine ⟨g, 0, rfl, hlt, fun j u hu => ?_⟩
 have := h.cells (g := g) rfl j u hu
 rwa [plain_add] at this
end
/-- The slice value v has n elements, of so many cells each: the cells xs. -/
def Row (B size : Nat) (w : World) (v : Value) (n : Nat) (xs : List Value) : Prop :=
 ∃ A cap, v = .slice A n cap ∧ n ≤ cap ∧ n ≤ maxLen ∧ Reads w B size A n xs
theorem Row.keep {B size n : Nat} {w w' : World} {v : Value} {xs : List Value} (h : Row B size w v n xs) (hk : ∀ p : Addr, p.block < B → w'.cell? p = w.cell? p) : Row B size w' v n xs := by
 obtain ⟨A, cap, h1, h2, h3, h4⟩ := h
 exact ⟨A, cap, h1, h2, h3, h4.keep hk⟩
theorem Row.more {B B' size n : Nat} {w : World} {v : Value} {xs : List Value} (h : Row B size w v n xs) (hB : B ≤ B') : Row B' size w v n xs := by
 obtain ⟨A, cap, h1, h2, h3, h4⟩ := h
 exact ⟨A, cap, h1, h2, h3, h4.more hB⟩
/-- A constant; a row of an exception table; a field or a method; a file. -/
structure Cn where
 tag : Int
 text : ByteArray
 n : Int
 a : Int
 b : Int
 c : Int
instance : Inhabited Cn := ⟨⟨0, ⟨#[]⟩, 0, 0, 0, 0⟩⟩
structure Hd where
 fr : Int
 to : Int
 at_ : Int
 cl : Int
structure Mb where
 fl : Int
 nm : Int
 ds : Int
 ms : Int
 ml : Int
 code : ByteArray
 hs : List Hd
instance : Inhabited Hd := ⟨⟨0, 0, 0, 0⟩⟩
instance : Inhabited Mb := ⟨⟨0, 0, 0, 0, 0, ⟨#[]⟩, []⟩⟩
structure Fl where
 pool : List Cn
 fl : Int
 this : Int
 super : Int
 ifs : List Int
 fds : List Mb
 mts : List Mb
def ccells (c : Cn) : List Value := [.int .i64 c.tag, .string c.text, .int .i64 c.n, .int .i64 c.a, .int .i64 c.b, .int .i64 c.c]
def hcells (h : Hd) : List Value := [.int .i64 h.fr, .int .i64 h.to, .int .i64 h.at_, .int .i64 h.cl]
def mcells (m : Mb) (hv : Value) : List Value := [.int .i64 m.fl, .int .i64 m.nm, .int .i64 m.ds, .int .i64 m.ms, .int .i64 m.ml, .string m.code, hv]
def iccells (l : List Int) : List Value := l.map fun (r : Int) => .int .i64 r
def mbcells (l : List (Mb × Value)) : List Value := l.flatMap fun p => mcells p.1 p.2
def CRow (B : Nat) (w : World) (v : Value) (cs : List Cn) : Prop := Row B 6 w v cs.length (cs.flatMap ccells)
def HRow (B : Nat) (w : World) (v : Value) (hs : List Hd) : Prop := Row B 4 w v hs.length (hs.flatMap hcells)
def IRow (B : Nat) (w : World) (v : Value) (is : List Int) : Prop := Row B 1 w v is.length (iccells is)
def MRow (B : Nat) (w : World) (v : Value) (ms : List Mb) : Prop :=
 ∃ hvs : List Value, hvs.length = ms.length ∧ (∀ (i : Nat) (m : Mb) (hv : Value), ms[i]? = some m → hvs[i]? = some hv → HRow B w hv m.hs) ∧ Row B 7 w v ms.length (mbcells (ms.zip hvs))
theorem MRow.keep {B : Nat} {w w' : World} {v : Value} {ms : List Mb} (h : MRow B w v ms) (hk : ∀ p : Addr, p.block < B → w'.cell? p = w.cell? p) : MRow B w' v ms := by
 obtain ⟨hvs, h1, h2, h3⟩ := h
 exact ⟨hvs, h1, fun i m hv a b => (h2 i m hv a b).keep hk, h3.keep hk⟩
theorem MRow.more {B B' : Nat} {w : World} {v : Value} {ms : List Mb} (h : MRow B w v ms) (hB : B ≤ B') : MRow B' w v ms := by
 obtain ⟨hvs, h1, h2, h3⟩ := h
 exact ⟨hvs, h1, fun i m hv a b => (h2 i m hv a b).more hB, h3.more hB⟩
theorem flat_at {α : Type} (f : α → List Value) (size : Nat) (hs : ∀ x, (f x).length = size) : ∀ (l : List α) (k : Nat) (x : α), l[k]? = some x → ∀ j, j < size → (l.flatMap f)[k * size + j]? = (f x)[j]?
 | [], k, x, h, _, _ => by simp at h
 | y :: l, 0, x, h, j, hj => by
  simp only [List.getElem?_cons_zero, Option.some.injEq] at h
  subst h
  rw [List.flatMap_cons, Nat.zero_mul, Nat.zero_add, List.getElem?_append_left (by rw [hs]; exact hj)]
 | y :: l, k + 1, x, h, j, hj => by
  simp only [List.getElem?_cons_succ] at h
  rw [List.flatMap_cons, List.getElem?_append_right (by rw [hs, Nat.succ_mul]; omega)]
  rw [hs, show (k + 1) * size + j - size = k * size + j by rw [Nat.succ_mul]; omega]
  exact flat_at f size hs l k x h j hj
theorem Row.nil {B size : Nat} {w : World} : Row B size w (.slice none 0 0) 0 [] := ⟨none, 0, rfl, Nat.le_refl _, by unfold maxLen; omega, by simp, fun h => absurd h (by omega)⟩
/-- The constant at place k. -/
theorem CRow.at_ {B : Nat} {w : World} {A : Option Addr} {n cap : Nat} {cs : List Cn} {k : Nat} {c : Cn} (h : CRow B w (.slice A n cap) cs) (hk : cs[k]? = some c) :
  ∃ b o, A = some ⟨b, o, none⟩ ∧ b < B ∧ w.cell? ⟨b, o + k * 6, none⟩ = some (.int .i64 c.tag) ∧ w.cell? ⟨b, o + k * 6 + 1, none⟩ = some (.string c.text) ∧ w.cell? ⟨b, o + k * 6 + 2, none⟩ = some (.int .i64 c.n) ∧
   w.cell? ⟨b, o + k * 6 + 3, none⟩ = some (.int .i64 c.a) ∧ w.cell? ⟨b, o + k * 6 + 4, none⟩ = some (.int .i64 c.b) ∧ w.cell? ⟨b, o + k * 6 + 5, none⟩ = some (.int .i64 c.c) := by
 obtain ⟨A', cap', e, _, _, _, h2⟩ := h
 injection e with e1 e2 e3
 subst e1
 have hl : k < cs.length := (List.getElem?_eq_some_iff.1 hk).1
 obtain ⟨b, o, e, hb, hc⟩ := h2 (by omega)
 have key : ∀ j u, j < 6 → (ccells c)[j]? = some u → w.cell? ⟨b, o + k * 6 + j, none⟩ = some u := fun j u hj hu => by
  rw [Nat.add_assoc]
  exact hc _ _ ((flat_at ccells 6 (fun _ => rfl) cs k c hk j hj).trans hu)
 exact ⟨b, o, e, hb, key 0 _ (by omega) rfl, key 1 _ (by omega) rfl, key 2 _ (by omega) rfl, key 3 _ (by omega) rfl, key 4 _ (by omega) rfl, key 5 _ (by omega) rfl⟩
theorem HRow.at_ {B : Nat} {w : World} {A : Option Addr} {n cap : Nat} {hs : List Hd} {k : Nat} {c : Hd} (h : HRow B w (.slice A n cap) hs) (hk : hs[k]? = some c) :
  ∃ b o, A = some ⟨b, o, none⟩ ∧ b < B ∧ w.cell? ⟨b, o + k * 4, none⟩ = some (.int .i64 c.fr) ∧ w.cell? ⟨b, o + k * 4 + 1, none⟩ = some (.int .i64 c.to) ∧ w.cell? ⟨b, o + k * 4 + 2, none⟩ = some (.int .i64 c.at_) ∧
   w.cell? ⟨b, o + k * 4 + 3, none⟩ = some (.int .i64 c.cl) := by
 obtain ⟨A', cap', e, _, _, _, h2⟩ := h
 injection e with e1 e2 e3
 subst e1
 have hl : k < hs.length := (List.getElem?_eq_some_iff.1 hk).1
 obtain ⟨b, o, e, hb, hc⟩ := h2 (by omega)
 have key : ∀ j u, j < 4 → (hcells c)[j]? = some u → w.cell? ⟨b, o + k * 4 + j, none⟩ = some u := fun j u hj hu => by
  rw [Nat.add_assoc]
  exact hc _ _ ((flat_at hcells 4 (fun _ => rfl) hs k c hk j hj).trans hu)
 exact ⟨b, o, e, hb, key 0 _ (by omega) rfl, key 1 _ (by omega) rfl, key 2 _ (by omega) rfl, key 3 _ (by omega) rfl⟩
theorem IRow.at_ {B : Nat} {w : World} {A : Option Addr} {n cap : Nat} {is : List Int} {k : Nat} {c : Int} (h : IRow B w (.slice A n cap) is) (hk : is[k]? = some c) :
  ∃ b o, A = some ⟨b, o, none⟩ ∧ b < B ∧ w.cell? ⟨b, o + k, none⟩ = some (.int .i64 c) := by
 obtain ⟨A', cap', e, _, _, _, h2⟩ := h
 injection e with e1 e2 e3
 subst e1
 have hl : k < is.length := (List.getElem?_eq_some_iff.1 hk).1
 obtain ⟨b, o, e, hb, hc⟩ := h2 (by omega)
 exact ⟨b, o, e, hb, hc _ _ (by unfold iccells; rw [List.getElem?_map, hk]; rfl)⟩
theorem MRow.at_ {B : Nat} {w : World} {A : Option Addr} {n cap : Nat} {ms : List Mb} {k : Nat} {m : Mb} (h : MRow B w (.slice A n cap) ms) (hk : ms[k]? = some m) :
  ∃ b o A' c', A = some ⟨b, o, none⟩ ∧ b < B ∧ HRow B w (.slice A' m.hs.length c') m.hs ∧ w.cell? ⟨b, o + k * 7, none⟩ = some (.int .i64 m.fl) ∧ w.cell? ⟨b, o + k * 7 + 1, none⟩ = some (.int .i64 m.nm) ∧ w.cell? ⟨b, o + k * 7 + 2, none⟩ = some (.int .i64 m.ds) ∧
   w.cell? ⟨b, o + k * 7 + 3, none⟩ = some (.int .i64 m.ms) ∧ w.cell? ⟨b, o + k * 7 + 4, none⟩ = some (.int .i64 m.ml) ∧ w.cell? ⟨b, o + k * 7 + 5, none⟩ = some (.string m.code) ∧ w.cell? ⟨b, o + k * 7 + 6, none⟩ = some (.slice A' m.hs.length c') := by
 obtain ⟨hvs, hl1, hr, A', cap', e, _, _, _, h2⟩ := h
 injection e with e1 e2 e3
 subst e1
 have hl : k < ms.length := (List.getElem?_eq_some_iff.1 hk).1
 obtain ⟨b, o, e, hb, hc⟩ := h2 (by omega)
 have hv : hvs[k]? = some (hvs[k]'(by omega)) := List.getElem?_eq_getElem (by omega)
 have hrow := hr k m _ hk hv
 generalize hvs[k]'(by omega) = hx at hv hrow
 obtain ⟨A2, c2, e2, rest⟩ := id hrow
 subst e2
 have hz : (ms.zip hvs)[k]? = some (m, .slice A2 m.hs.length c2) := by rw [List.getElem?_zip_eq_some]; exact ⟨hk, hv⟩
 have key : ∀ j u, j < 7 → (mcells m (.slice A2 m.hs.length c2))[j]? = some u → w.cell? ⟨b, o + k * 7 + j, none⟩ = some u := fun j u hj hu => by
  rw [Nat.add_assoc]
  exact hc _ _ ((flat_at (fun p : Mb × Value => mcells p.1 p.2) 7 (fun _ => rfl) _ k _ hz j hj).trans hu)
 exact ⟨b, o, A2, c2, e, hb, hrow, key 0 _ (by omega) rfl, key 1 _ (by omega) rfl, key 2 _ (by omega) rfl, key 3 _ (by omega) rfl, key 4 _ (by omega) rfl, key 5 _ (by omega) rfl, key 6 _ (by omega) rfl⟩
/-- The value v is the file f; its rows lie below block B. -/
structure FileIs (B : Nat) (w : World) (Ap : Option Addr) (cp : Nat) (Ai : Option Addr) (ci : Nat) (Af : Option Addr) (cf : Nat) (Am : Option Addr) (cm : Nat) (f : Fl) : Prop where
 pool : CRow B w (.slice Ap f.pool.length cp) f.pool
 ifs : IRow B w (.slice Ai f.ifs.length ci) f.ifs
 fds : MRow B w (.slice Af f.fds.length cf) f.fds
 mts : MRow B w (.slice Am f.mts.length cm) f.mts
def FileAt (B : Nat) (w : World) (v : Value) (f : Fl) : Prop :=
 ∃ Ap cp Ai ci Af cf Am cm, v = .agg #[.slice Ap f.pool.length cp, .int .i64 f.fl, .int .i64 f.this, .int .i64 f.super, .slice Ai f.ifs.length ci, .slice Af f.fds.length cf, .slice Am f.mts.length cm] ∧ FileIs B w Ap cp Ai ci Af cf Am cm f
theorem FileIs.keep {B : Nat} {w w' : World} {Ap Ai Af Am : Option Addr} {cp ci cf cm : Nat} {f : Fl} (h : FileIs B w Ap cp Ai ci Af cf Am cm f) (hk : ∀ p : Addr, p.block < B → w'.cell? p = w.cell? p) : FileIs B w' Ap cp Ai ci Af cf Am cm f :=
 ⟨Row.keep h.pool hk, Row.keep h.ifs hk, h.fds.keep hk, h.mts.keep hk⟩
theorem FileIs.more {B B' : Nat} {w : World} {Ap Ai Af Am : Option Addr} {cp ci cf cm : Nat} {f : Fl} (h : FileIs B w Ap cp Ai ci Af cf Am cm f) (hB : B ≤ B') : FileIs B' w Ap cp Ai ci Af cf Am cm f :=
 ⟨Row.more h.pool hB, Row.more h.ifs hB, h.fds.more hB, h.mts.more hB⟩
theorem FileAt.keep {B : Nat} {w w' : World} {v : Value} {f : Fl} (h : FileAt B w v f) (hk : ∀ p : Addr, p.block < B → w'.cell? p = w.cell? p) : FileAt B w' v f := by
 obtain ⟨Ap, cp, Ai, ci, Af, cf, Am, cm, e, h⟩ := h
 exact ⟨Ap, cp, Ai, ci, Af, cf, Am, cm, e, h.keep hk⟩
theorem FileAt.below {B B' : Nat} {w w' : World} {v : Value} {f : Fl} (h : FileAt B w v f) (hb : Below B' w w') (hB : B ≤ B') : FileAt B w' v f := h.keep fun p hp => hb.cell (p := p) (by omega)
theorem FileAt.more {B B' : Nat} {w : World} {v : Value} {f : Fl} (h : FileAt B w v f) (hB : B ≤ B') : FileAt B' w v f := by
 obtain ⟨Ap, cp, Ai, ci, Af, cf, Am, cm, e, h⟩ := h
 exact ⟨Ap, cp, Ai, ci, Af, cf, Am, cm, e, h.more hB⟩
theorem FileAt.alloc {B : Nat} {w : World} {v : Value} {f : Fl} (h : FileAt B w v f) (hB : B ≤ w.heap.size) (o : Obj) : FileAt B (w.alloc o) v f := h.keep fun p hp => World.cell?_alloc_lt w o p (by omega)
/-- A pointer to a class, or nil. -/
def ptrV (cl : Nat → Nat) : Option Nat → Value
 | none => .pointer none
 | some j => .pointer (some ⟨cl j, 0, none⟩)
/-- n classes at the blocks cl, those from o on with sets that may grow; their sets S at the blocks sl; who is directly above them: up, ifl. -/
structure Tab (B o n : Nat) (cl sl : Nat → Nat) (up : Nat → Option Nat) (ifl : Nat → List Nat) (S : Nat → List Nat) (w : World) : Prop where
 few : n ≤ 1000
 cls : ∀ i, i < n → ∃ k : KC, KAt (cl i) k w ∧ k.place = i ∧ k.up = ptrV cl (up i) ∧ Row B 1 w k.ifs (ifl i).length ((ifl i).map fun j => ptrV cl (some j)) ∧ k.above = .slice (some ⟨sl i, 0, none⟩) (S i).length (S i).length
 sets : ∀ i, i < n → SetAt (sl i) (S i) w
 inj : ∀ i j, i < n → j < n → sl i = sl j → i = j
 low : ∀ i, o ≤ i → i < n → B ≤ sl i
 upn : ∀ i j, i < n → up i = some j → j < n
 ifn : ∀ i j, i < n → j ∈ ifl i → j < n
 wide : ∀ i, o ≤ i → i < n → (S i).length = (n + 63) / 64
 len : ∀ i, i < n → (S i).length ≤ (n + 63) / 64
theorem set_ne {c b : Nat} {k : KC} {ws : List Nat} {w : World} (hc : KAt c k w) (hs : SetAt b ws w) : c ≠ b := by
 rintro rfl
 unfold KAt at hc
 rw [hs.row] at hc
 have := congrArg (fun o => match o with | some (Obj.cells _ t _) => t | _ => 0) hc
 cases this
def put1 (S : Nat → List Nat) (i : Nat) (us : List Nat) : Nat → List Nat := fun j => if j = i then us else S j
theorem put1_self (S : Nat → List Nat) (i : Nat) (us : List Nat) : put1 S i us i = us := by simp [put1]
theorem put1_ne (S : Nat → List Nat) {i j : Nat} (us : List Nat) (h : j ≠ i) : put1 S i us j = S j := by simp [put1, h]
theorem put1_twice (S : Nat → List Nat) (i : Nat) (us vs : List Nat) : put1 (put1 S i us) i vs = put1 S i vs := by
 funext j
 unfold put1
 split <;> rfl
theorem put1_same (S : Nat → List Nat) (i : Nat) : put1 S i (S i) = S := by
 funext j
 unfold put1
 split
 ·rename_i h; rw [h]
 ·rfl
section
variable {B o n : Nat} {cl sl : Nat → Nat} {up : Nat → Option Nat} {ifl : Nat → List Nat} {S : Nat → List Nat} {w w' : World}
theorem Tab.drewN (T : Tab B o n cl sl up ifl S w) (m : Nat) : Tab B o n cl sl up ifl S (w.drewN m) :=
 ⟨T.few, T.cls, fun i hi => (T.sets i hi).drewN m, T.inj, T.low, T.upn, T.ifn, T.wide, T.len⟩
/-- One set was turned. -/
theorem Tab.turn (T : Tab B o n cl sl up ifl S w) {i : Nat} (ho : o ≤ i) (hi : i < n) {us : List Nat} (hs : SetAt (sl i) us w') (hl : us.length = (S i).length) (hu : Upd [sl i] w w') : Tab B o n cl sl up ifl (put1 S i us) w' := by
 have hB := T.low i ho hi
 have hlen : ∀ j, (put1 S i us j).length = (S j).length := by
  intro j
  unfold put1
  split
  ·rename_i e; rw [e, hl]
  ·rfl
 refine ⟨T.few, ?_, ?_, T.inj, T.low, T.upn, T.ifn, ?_, ?_⟩
 ·intro j hj
  obtain ⟨k, h1, h2, h3, h4, h5⟩ := T.cls j hj
  have hne := set_ne h1 (T.sets i hi)
  refine ⟨k, (hu.block _ (lt_of_block h1) (by simpa using hne)).trans h1, h2, h3, ?_, ?_⟩
  ·refine h4.keep fun p hp => ?_
   have hpb : p.block ≠ sl i := by omega
   by_cases hlt : p.block < w.heap.size
   ·have := hu.block p.block hlt (by simpa using hpb)
    unfold World.cell?
    rw [this]
   ·exfalso
    have := lt_of_block (T.sets i hi).row
    omega
  ·rw [hlen]; exact h5
 ·intro j hj
  by_cases e : j = i
  ·subst e; rw [put1_self]; exact hs
  ·rw [put1_ne _ _ e]
   have h1 := T.sets j hj
   have hne : sl j ≠ sl i := fun h => e (T.inj j i hj hi h)
   exact ⟨(hu.block _ (lt_of_block h1.row) (by simpa using hne)).trans h1.row, h1.word, h1.few⟩
 ·intro j h1 h2; rw [hlen]; exact T.wide j h1 h2
 ·intro j h1; rw [hlen]; exact T.len j h1
/-- addUp of a class j onto the set of a class i. -/
theorem Tab.addUp (T : Tab B o n cl sl up ifl S w) {i j : Nat} (ho : o ≤ i) (hi : i < n) (hj : j < n) :
  Calls Tryz.prog 123 #[.slice (some ⟨sl i, 0, none⟩) (S i).length (S i).length, ptrV cl (some j)] w fun e w' => ∃ us, ∃ g : Bool, e = .returned (.bool g) ∧ us.length = (S i).length ∧
   (∀ k, bit us k = (bit (S i) k || decide (k = j) || bit (S j) k)) ∧ (g = true ↔ ∃ k, bit us k = true ∧ bit (S i) k = false) ∧ Tab B o n cl sl up ifl (put1 S i us) w' ∧ Upd [sl i] w w' := by
 obtain ⟨k, h1, h2, h3, h4, h5⟩ := T.cls j hj
 have hw := T.wide i ho hi
 have hlj := T.len j hj
 have hfew := T.few
 have hal : sl j = sl i → S j = S i := fun h => by rw [T.inj j i hj hi h]
 refine (addUp_any (T.sets i hi) h1 h5 (T.sets j hj) hal (by rw [h2]; omega) (by rw [h2, hw]; omega) (by omega)).mono ?_
 rintro e w' ⟨us, g, rfl, J, hu⟩
 refine ⟨us, g, rfl, J.len, ?_, J.grown, T.turn ho hi J.row J.len hu, hu⟩
 intro x
 rw [h2] at J
 cases hx : bit us x with
 | true =>
  rcases J.sound x hx with h | h | h
  ·simp [h]
  ·simp [h]
  ·simp [h]
 | false =>
  have n1 : bit (S i) x = false := by
   cases hb : bit (S i) x with
   | false => rfl
   | true => rw [J.keep x hb] at hx; cases hx
  have n2 : x ≠ j := by rintro rfl; rw [J.put] at hx; cases hx
  have n3 : bit (S j) x = false := by
   cases hb : bit (S j) x with
   | false => rfl
   | true => rw [J.done x (bit_lt hb) hb] at hx; cases hx
  simp [n1, n2, n3]
end
/-- How an element of the map reads: as itself. -/
def PR (v : Value) : Option (DataW Value × List MemPlace) := some (.held v, [])
theorem und9 : Tryz.prog.underlying 9 = some .string := by kernel_rfl
theorem und110 : Tryz.prog.underlying 110 = some (.map 9 108) := by kernel_rfl
theorem zero108 (w : World) : (zeroValue 108).run Tryz.prog w = .ok (.pointer none) w := by kernel_rfl
/-- Block mb is the map of the classes cs by their names; cl: their blocks. -/
def TMap (mb : Nat) (cs : List PC) (cl : Nat → Nat) (w : World) : Prop :=
 ∃ m D, m ≤ cs.length ∧ w.ownsMap Tryz.prog 9 PR mb m D ∧ ∀ nm : List UInt8, D.atKey (.string nm) (.held (.pointer none)) = .held (ptrV cl (ix cs nm))
theorem TMap.look {mb : Nat} {cs : List PC} {cl : Nat → Nat} {w : World} (h : TMap mb cs cl w) (s : ByteArray) (hs : s.size ≤ maxLen) :
  (Instr.lookup 110 (.map (some mb)) (.string s) false).run Tryz.prog w = .ok (ptrV cl (ix cs s.data.toList)) w := by
 obtain ⟨m, D, _, hown, hat⟩ := h
 obtain ⟨v, ps, hrun, hv⟩ := hown.lookup (Maps.string_keyed und9) und110 (zero108 w) (zd := .held (.pointer none)) (zp := []) rfl (WideMaps.keyOf_string_mk und9 hs)
 rw [hat] at hv
 unfold PR at hv
 have : v = ptrV cl (ix cs s.data.toList) := by
  have := Option.some.inj hv
  have := congrArg Prod.fst this
  exact DataW.held.inj this
 rw [hrun, this]
/-- An empty map. -/
theorem TMap.new (w : World) (cl : Nat → Nat) : TMap w.heap.size [] cl (w.alloc (.map #[] 0)) :=
 ⟨0, .map [], by simp, World.ownsMap_made w _ _ _, fun nm => rfl⟩
/-- The map stays while other blocks are turned. -/
theorem TMap.stay {mb : Nat} {cs : List PC} {cl : Nat → Nat} {w w' : World} {S : List Nat} (h : TMap mb cs cl w) (hu : Upd S w w') (hn : mb ∉ S) : TMap mb cs cl w' := by
 obtain ⟨m, D, h1, hown, h3⟩ := h
 obtain ⟨es, clock, hb, F, hs, hD⟩ := hown
 exact ⟨m, D, h1, ⟨es, clock, (hu.block mb (Array.getElem?_eq_some_iff.1 hb).1 hn).trans hb, F, hs, hD⟩, h3⟩
theorem TMap.lt {mb : Nat} {cs : List PC} {cl : Nat → Nat} {w : World} (h : TMap mb cs cl w) : mb < w.heap.size := by
 obtain ⟨m, D, _, hown, _⟩ := h
 exact hown.lt
/-- The map stays where its block does. -/
theorem TMap.same {mb : Nat} {cs : List PC} {cl : Nat → Nat} {w w' : World} (h : TMap mb cs cl w) (hk : w'.heap[mb]? = w.heap[mb]?) : TMap mb cs cl w' := by
 obtain ⟨m, D, h1, ⟨es, clock, hb, F, hs, hD⟩, h3⟩ := h
 exact ⟨m, D, h1, ⟨es, clock, hk.trans hb, F, hs, hD⟩, h3⟩
/-- Other names of the same blocks. -/
theorem TMap.as {mb : Nat} {cs : List PC} {cl cl' : Nat → Nat} {w : World} (h : TMap mb cs cl w) (he : ∀ i, i < cs.length → cl' i = cl i) : TMap mb cs cl' w := by
 obtain ⟨m, D, h1, h2, h3⟩ := h
 refine ⟨m, D, h1, h2, fun nm => ?_⟩
 rw [h3]
 cases hi : ix cs nm with
 | none => rfl
 | some j => simp only [ptrV]; rw [he j (ix_lt hi)]
set_option maxRecDepth 1000000 in
/-- A class is put in: m[name] = c. -/
theorem TMap.put {mb : Nat} {cs : List PC} {cl : Nat → Nat} {w : World} (h : TMap mb cs cl w) (c : PC) {s : ByteArray} (hs : s.size ≤ maxLen) (hn : c.name = s.data.toList) (hnew : ix cs c.name = none) (hl : cs.length < 1000000) :
  ∃ w', (Instr.mapUpdate 110 (.map (some mb)) (.string s) (.pointer (some ⟨cl cs.length, 0, none⟩))).run Tryz.prog w = .ok () w' ∧ TMap mb (cs ++ [c]) cl w' ∧ w.grownBy w' (some mb) := by
 obtain ⟨m, D, hm, hown, hat⟩ := h
 obtain ⟨w', hrun, hown', hg⟩ := hown.update (Maps.string_keyed und9) und110 (by unfold maxLen; omega) (WideMaps.keyOf_string_mk und9 hs) (val := .pointer (some ⟨cl cs.length, 0, none⟩)) (d := .held (.pointer (some ⟨cl cs.length, 0, none⟩))) (ps := []) rfl
 refine ⟨w', hrun, ⟨m + 1, _, by simp; omega, hown', fun nm => ?_⟩, hg⟩
 by_cases e : nm = s.data.toList
 ·subst e
  rw [Maps.atKey_put_same hown.isMap (show WideAt.IsKeyLit (.string s.data.toList) from trivial), ix_app_none (by rw [← hn]; exact hnew)]
  simp [ix, hn, ptrV]
 ·have hne : (Lit.string nm) ≠ (Lit.string s.data.toList) := fun h => e (by injection h)
  rw [Maps.atKey_put_other hne, hat]
  congr 2
  cases hi : ix cs nm with
  | some j => rw [ix_app hi]
  | none =>
   rw [ix_app_none hi]
   simp [ix, hn, Ne.symm e]
end Go.Proofs.YtmaknddlgppinaaGreatDoor
