/-
  FILES IN MEMORY: rows that read as lists, and a file that is read out of a struct's value. No walk in it.
-/
import Derived.Test.YtcgloepfnnfioaaRows
import Derived.WalkKit
import Derived.WalkSpells
import Derived.WalkLawsBesides
import Derived.Below
import Derived.Laws.OwnMore
import Derived.Deep.AppendLies
import Derived.Deep.Draws
import Derived.Lib.Hide
set_option linter.unusedVariables false
set_option linter.unusedSimpArgs false
namespace Go.Proofs.Ytcgloepfnnfioaa
open Go.RowKit

theorem block_of_add (a : Addr) (n : Nat) : (a.add n).block = a.block := by unfold Addr.add; split <;> rfl
theorem add_of_add (a : Addr) (i j : Nat) : (a.add i).add j = a.add (i + j) := by
  unfold Addr.add
  by_cases hi : i = 0 <;> by_cases hj : j = 0 <;> simp [hi, hj, Nat.add_assoc]
theorem plain_add (b o j : Nat) : ({ block := b, off := o } : Addr).add j = ⟨b, o + j, none⟩ := by
  unfold Addr.add
  by_cases h : j = 0 <;> simp [h]
/-- The slice's first n elements, each of so many cells, are the cells xs; they lie below block B. -/
def Reads (w : World) (B size : Nat) (A : Option Addr) (n : Nat) (xs : List Value) : Prop :=
  xs.length = n * size ∧ (0 < n → ∃ b o, A = some ⟨b, o, none⟩ ∧ b < B ∧ ∀ j u, xs[j]? = some u → w.cell? ⟨b, o + j, none⟩ = some u)
section
variable {w w' : World} {B B' size n : Nat} {A : Option Addr} {xs : List Value}
theorem Reads.keep (h : Reads w B size A n xs) (hk : ∀ p : Addr, p.block < B → w'.cell? p = w.cell? p) : Reads w' B size A n xs :=
  ⟨h.1, fun hn => by
    obtain ⟨b, o, e, hb, hc⟩ := h.2 hn
    exact ⟨b, o, e, hb, fun j u hu => (hk _ hb).trans (hc j u hu)⟩⟩
theorem Reads.more (h : Reads w B size A n xs) (hB : B ≤ B') : Reads w B' size A n xs :=
  ⟨h.1, fun hn => by
    obtain ⟨b, o, e, hb, hc⟩ := h.2 hn
    exact ⟨b, o, e, by omega, hc⟩⟩
theorem Reads.below (h : Reads w B size A n xs) (hb : Below B w w') : Reads w' B size A n xs := h.keep fun _ hp => hb.cell hp
theorem Reads.of_own {base : Nat} {e : TypeId} {c : Nat} (h : w.ownsRow base e size (.slice A n c) n xs) : Reads w w.heap.size size A n xs := by
  refine ⟨h.1, fun hn => ?_⟩
  obtain ⟨g, cap, hv, _, hlt⟩ := h.form hn
  have hA : A = some ⟨g, 0, none⟩ := by injection hv
  subst hA
  refine ⟨g, 0, rfl, hlt, fun j u hu => ?_⟩
  have := h.cells (g := g) rfl j u hu
  rwa [plain_add] at this
end
/-- The slice value v has n elements, of so many cells each: the cells xs. -/
def Row (B size : Nat) (w : World) (v : Value) (n : Nat) (xs : List Value) : Prop :=
  ∃ A cap, v = .slice A n cap ∧ n ≤ cap ∧ n ≤ maxLen ∧ Reads w B size A n xs
theorem Row.keep {B size n : Nat} {w w' : World} {v : Value} {xs : List Value} (h : Row B size w v n xs) (hk : ∀ p : Addr, p.block < B → w'.cell? p = w.cell? p) : Row B size w' v n xs := by
  obtain ⟨A, cap, h1, h2, h3, h4⟩ := h
  exact ⟨A, cap, h1, h2, h3, h4.keep hk⟩
theorem Row.more {B B' size n : Nat} {w : World} {v : Value} {xs : List Value} (h : Row B size w v n xs) (hB : B ≤ B') : Row B' size w v n xs := by
  obtain ⟨A, cap, h1, h2, h3, h4⟩ := h
  exact ⟨A, cap, h1, h2, h3, h4.more hB⟩

/-- A constant; a row of an exception table; a field or a method; a file. -/
structure Cn where
  tag : Int
  text : ByteArray
  n : Int
  a : Int
  b : Int
  c : Int
instance : Inhabited Cn := ⟨⟨0, ⟨#[]⟩, 0, 0, 0, 0⟩⟩
structure Hd where
  fr : Int
  to : Int
  at_ : Int
  cl : Int
structure Mb where
  fl : Int
  nm : Int
  ds : Int
  ms : Int
  ml : Int
  code : ByteArray
  hs : List Hd
instance : Inhabited Hd := ⟨⟨0, 0, 0, 0⟩⟩
instance : Inhabited Mb := ⟨⟨0, 0, 0, 0, 0, ⟨#[]⟩, []⟩⟩
structure Fl where
  pool : List Cn
  fl : Int
  this : Int
  super : Int
  ifs : List Int
  fds : List Mb
  mts : List Mb

def ccells (c : Cn) : List Value := [.int .i64 c.tag, .string c.text, .int .i64 c.n, .int .i64 c.a, .int .i64 c.b, .int .i64 c.c]
def hcells (h : Hd) : List Value := [.int .i64 h.fr, .int .i64 h.to, .int .i64 h.at_, .int .i64 h.cl]
def mcells (m : Mb) (hv : Value) : List Value := [.int .i64 m.fl, .int .i64 m.nm, .int .i64 m.ds, .int .i64 m.ms, .int .i64 m.ml, .string m.code, hv]
def iccells (l : List Int) : List Value := l.map fun (r : Int) => .int .i64 r
def mbcells (l : List (Mb × Value)) : List Value := l.flatMap fun p => mcells p.1 p.2
def CRow (B : Nat) (w : World) (v : Value) (cs : List Cn) : Prop := Row B 6 w v cs.length (cs.flatMap ccells)
def HRow (B : Nat) (w : World) (v : Value) (hs : List Hd) : Prop := Row B 4 w v hs.length (hs.flatMap hcells)
def IRow (B : Nat) (w : World) (v : Value) (is : List Int) : Prop := Row B 1 w v is.length (iccells is)
def MRow (B : Nat) (w : World) (v : Value) (ms : List Mb) : Prop :=
  ∃ hvs : List Value, hvs.length = ms.length ∧ (∀ (i : Nat) (m : Mb) (hv : Value), ms[i]? = some m → hvs[i]? = some hv → HRow B w hv m.hs) ∧ Row B 7 w v ms.length (mbcells (ms.zip hvs))
theorem MRow.keep {B : Nat} {w w' : World} {v : Value} {ms : List Mb} (h : MRow B w v ms) (hk : ∀ p : Addr, p.block < B → w'.cell? p = w.cell? p) : MRow B w' v ms := by
  obtain ⟨hvs, h1, h2, h3⟩ := h
  exact ⟨hvs, h1, fun i m hv a b => (h2 i m hv a b).keep hk, h3.keep hk⟩
theorem MRow.more {B B' : Nat} {w : World} {v : Value} {ms : List Mb} (h : MRow B w v ms) (hB : B ≤ B') : MRow B' w v ms := by
  obtain ⟨hvs, h1, h2, h3⟩ := h
  exact ⟨hvs, h1, fun i m hv a b => (h2 i m hv a b).more hB, h3.more hB⟩

theorem flat_at {α : Type} (f : α → List Value) (size : Nat) (hs : ∀ x, (f x).length = size) : ∀ (l : List α) (k : Nat) (x : α), l[k]? = some x → ∀ j, j < size → (l.flatMap f)[k * size + j]? = (f x)[j]?
  | [], k, x, h, _, _ => by simp at h
  | y :: l, 0, x, h, j, hj => by
    simp only [List.getElem?_cons_zero, Option.some.injEq] at h
    subst h
    rw [List.flatMap_cons, Nat.zero_mul, Nat.zero_add, List.getElem?_append_left (by rw [hs]; exact hj)]
  | y :: l, k + 1, x, h, j, hj => by
    simp only [List.getElem?_cons_succ] at h
    rw [List.flatMap_cons, List.getElem?_append_right (by rw [hs, Nat.succ_mul]; omega)]
    rw [hs, show (k + 1) * size + j - size = k * size + j by rw [Nat.succ_mul]; omega]
    exact flat_at f size hs l k x h j hj
theorem Row.nil {B size : Nat} {w : World} : Row B size w (.slice none 0 0) 0 [] := ⟨none, 0, rfl, Nat.le_refl _, by unfold maxLen; omega, by simp, fun h => absurd h (by omega)⟩

/-- The constant at place k. -/
theorem CRow.at_ {B : Nat} {w : World} {A : Option Addr} {n cap : Nat} {cs : List Cn} {k : Nat} {c : Cn} (h : CRow B w (.slice A n cap) cs) (hk : cs[k]? = some c) :
    ∃ b o, A = some ⟨b, o, none⟩ ∧ b < B ∧ w.cell? ⟨b, o + k * 6, none⟩ = some (.int .i64 c.tag) ∧ w.cell? ⟨b, o + k * 6 + 1, none⟩ = some (.string c.text) ∧ w.cell? ⟨b, o + k * 6 + 2, none⟩ = some (.int .i64 c.n) ∧
      w.cell? ⟨b, o + k * 6 + 3, none⟩ = some (.int .i64 c.a) ∧ w.cell? ⟨b, o + k * 6 + 4, none⟩ = some (.int .i64 c.b) ∧ w.cell? ⟨b, o + k * 6 + 5, none⟩ = some (.int .i64 c.c) := by
  obtain ⟨A', cap', e, _, _, _, h2⟩ := h
  injection e with e1 e2 e3
  subst e1
  have hl : k < cs.length := (List.getElem?_eq_some_iff.1 hk).1
  obtain ⟨b, o, e, hb, hc⟩ := h2 (by omega)
  have key : ∀ j u, j < 6 → (ccells c)[j]? = some u → w.cell? ⟨b, o + k * 6 + j, none⟩ = some u := fun j u hj hu => by
    rw [Nat.add_assoc]
    exact hc _ _ ((flat_at ccells 6 (fun _ => rfl) cs k c hk j hj).trans hu)
  exact ⟨b, o, e, hb, key 0 _ (by omega) rfl, key 1 _ (by omega) rfl, key 2 _ (by omega) rfl, key 3 _ (by omega) rfl, key 4 _ (by omega) rfl, key 5 _ (by omega) rfl⟩
theorem HRow.at_ {B : Nat} {w : World} {A : Option Addr} {n cap : Nat} {hs : List Hd} {k : Nat} {c : Hd} (h : HRow B w (.slice A n cap) hs) (hk : hs[k]? = some c) :
    ∃ b o, A = some ⟨b, o, none⟩ ∧ b < B ∧ w.cell? ⟨b, o + k * 4, none⟩ = some (.int .i64 c.fr) ∧ w.cell? ⟨b, o + k * 4 + 1, none⟩ = some (.int .i64 c.to) ∧ w.cell? ⟨b, o + k * 4 + 2, none⟩ = some (.int .i64 c.at_) ∧
      w.cell? ⟨b, o + k * 4 + 3, none⟩ = some (.int .i64 c.cl) := by
  obtain ⟨A', cap', e, _, _, _, h2⟩ := h
  injection e with e1 e2 e3
  subst e1
  have hl : k < hs.length := (List.getElem?_eq_some_iff.1 hk).1
  obtain ⟨b, o, e, hb, hc⟩ := h2 (by omega)
  have key : ∀ j u, j < 4 → (hcells c)[j]? = some u → w.cell? ⟨b, o + k * 4 + j, none⟩ = some u := fun j u hj hu => by
    rw [Nat.add_assoc]
    exact hc _ _ ((flat_at hcells 4 (fun _ => rfl) hs k c hk j hj).trans hu)
  exact ⟨b, o, e, hb, key 0 _ (by omega) rfl, key 1 _ (by omega) rfl, key 2 _ (by omega) rfl, key 3 _ (by omega) rfl⟩
theorem IRow.at_ {B : Nat} {w : World} {A : Option Addr} {n cap : Nat} {is : List Int} {k : Nat} {c : Int} (h : IRow B w (.slice A n cap) is) (hk : is[k]? = some c) :
    ∃ b o, A = some ⟨b, o, none⟩ ∧ b < B ∧ w.cell? ⟨b, o + k, none⟩ = some (.int .i64 c) := by
  obtain ⟨A', cap', e, _, _, _, h2⟩ := h
  injection e with e1 e2 e3
  subst e1
  have hl : k < is.length := (List.getElem?_eq_some_iff.1 hk).1
  obtain ⟨b, o, e, hb, hc⟩ := h2 (by omega)
  exact ⟨b, o, e, hb, hc _ _ (by unfold iccells; rw [List.getElem?_map, hk]; rfl)⟩
theorem MRow.at_ {B : Nat} {w : World} {A : Option Addr} {n cap : Nat} {ms : List Mb} {k : Nat} {m : Mb} (h : MRow B w (.slice A n cap) ms) (hk : ms[k]? = some m) :
    ∃ b o A' c', A = some ⟨b, o, none⟩ ∧ b < B ∧ HRow B w (.slice A' m.hs.length c') m.hs ∧ w.cell? ⟨b, o + k * 7, none⟩ = some (.int .i64 m.fl) ∧ w.cell? ⟨b, o + k * 7 + 1, none⟩ = some (.int .i64 m.nm) ∧ w.cell? ⟨b, o + k * 7 + 2, none⟩ = some (.int .i64 m.ds) ∧
      w.cell? ⟨b, o + k * 7 + 3, none⟩ = some (.int .i64 m.ms) ∧ w.cell? ⟨b, o + k * 7 + 4, none⟩ = some (.int .i64 m.ml) ∧ w.cell? ⟨b, o + k * 7 + 5, none⟩ = some (.string m.code) ∧ w.cell? ⟨b, o + k * 7 + 6, none⟩ = some (.slice A' m.hs.length c') := by
  obtain ⟨hvs, hl1, hr, A', cap', e, _, _, _, h2⟩ := h
  injection e with e1 e2 e3
  subst e1
  have hl : k < ms.length := (List.getElem?_eq_some_iff.1 hk).1
  obtain ⟨b, o, e, hb, hc⟩ := h2 (by omega)
  have hv : hvs[k]? = some (hvs[k]'(by omega)) := List.getElem?_eq_getElem (by omega)
  have hrow := hr k m _ hk hv
  generalize hvs[k]'(by omega) = hx at hv hrow
  obtain ⟨A2, c2, e2, rest⟩ := id hrow
  subst e2
  have hz : (ms.zip hvs)[k]? = some (m, .slice A2 m.hs.length c2) := by rw [List.getElem?_zip_eq_some]; exact ⟨hk, hv⟩
  have key : ∀ j u, j < 7 → (mcells m (.slice A2 m.hs.length c2))[j]? = some u → w.cell? ⟨b, o + k * 7 + j, none⟩ = some u := fun j u hj hu => by
    rw [Nat.add_assoc]
    exact hc _ _ ((flat_at (fun p : Mb × Value => mcells p.1 p.2) 7 (fun _ => rfl) _ k _ hz j hj).trans hu)
  exact ⟨b, o, A2, c2, e, hb, hrow, key 0 _ (by omega) rfl, key 1 _ (by omega) rfl, key 2 _ (by omega) rfl, key 3 _ (by omega) rfl, key 4 _ (by omega) rfl, key 5 _ (by omega) rfl, key 6 _ (by omega) rfl⟩

/-- The value v is the file f; its rows lie below block B. -/
structure FileIs (B : Nat) (w : World) (Ap : Option Addr) (cp : Nat) (Ai : Option Addr) (ci : Nat) (Af : Option Addr) (cf : Nat) (Am : Option Addr) (cm : Nat) (f : Fl) : Prop where
  pool : CRow B w (.slice Ap f.pool.length cp) f.pool
  ifs : IRow B w (.slice Ai f.ifs.length ci) f.ifs
  fds : MRow B w (.slice Af f.fds.length cf) f.fds
  mts : MRow B w (.slice Am f.mts.length cm) f.mts
def FileAt (B : Nat) (w : World) (v : Value) (f : Fl) : Prop :=
  ∃ Ap cp Ai ci Af cf Am cm, v = .agg #[.slice Ap f.pool.length cp, .int .i64 f.fl, .int .i64 f.this, .int .i64 f.super, .slice Ai f.ifs.length ci, .slice Af f.fds.length cf, .slice Am f.mts.length cm] ∧ FileIs B w Ap cp Ai ci Af cf Am cm f
theorem FileIs.keep {B : Nat} {w w' : World} {Ap Ai Af Am : Option Addr} {cp ci cf cm : Nat} {f : Fl} (h : FileIs B w Ap cp Ai ci Af cf Am cm f) (hk : ∀ p : Addr, p.block < B → w'.cell? p = w.cell? p) : FileIs B w' Ap cp Ai ci Af cf Am cm f :=
  ⟨Row.keep h.pool hk, Row.keep h.ifs hk, h.fds.keep hk, h.mts.keep hk⟩
theorem FileIs.more {B B' : Nat} {w : World} {Ap Ai Af Am : Option Addr} {cp ci cf cm : Nat} {f : Fl} (h : FileIs B w Ap cp Ai ci Af cf Am cm f) (hB : B ≤ B') : FileIs B' w Ap cp Ai ci Af cf Am cm f :=
  ⟨Row.more h.pool hB, Row.more h.ifs hB, h.fds.more hB, h.mts.more hB⟩
theorem FileAt.keep {B : Nat} {w w' : World} {v : Value} {f : Fl} (h : FileAt B w v f) (hk : ∀ p : Addr, p.block < B → w'.cell? p = w.cell? p) : FileAt B w' v f := by
  obtain ⟨Ap, cp, Ai, ci, Af, cf, Am, cm, e, h⟩ := h
  exact ⟨Ap, cp, Ai, ci, Af, cf, Am, cm, e, h.keep hk⟩
theorem FileAt.below {B B' : Nat} {w w' : World} {v : Value} {f : Fl} (h : FileAt B w v f) (hb : Below B' w w') (hB : B ≤ B') : FileAt B w' v f := h.keep fun p hp => hb.cell (p := p) (by omega)
theorem FileAt.more {B B' : Nat} {w : World} {v : Value} {f : Fl} (h : FileAt B w v f) (hB : B ≤ B') : FileAt B' w v f := by
  obtain ⟨Ap, cp, Ai, ci, Af, cf, Am, cm, e, h⟩ := h
  exact ⟨Ap, cp, Ai, ci, Af, cf, Am, cm, e, h.more hB⟩
theorem FileAt.alloc {B : Nat} {w : World} {v : Value} {f : Fl} (h : FileAt B w v f) (hB : B ≤ w.heap.size) (o : Obj) : FileAt B (w.alloc o) v f := h.keep fun p hp => World.cell?_alloc_lt w o p (by omega)
end Go.Proofs.Ytcgloepfnnfioaa
