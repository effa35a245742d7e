/-
  WALK of 'shown': the chapter's examples hold.
-/
import Derived.Test.YtkbnhjmpojpfhaaW9
namespace Go.Proofs.Ytkbnhjmpojpfhaa
open Go.RowKit

theorem Encode_at (l m : List UInt8) (z : Int) (w : World) (hl : l.length ≤ 100) (ha : encA l = m) (he : encE l = z) :
    Calls Try.prog 14 #[.string ⟨l.toArray⟩] w fun e w' => e = .returned (.tuple #[.string ⟨m.toArray⟩, .int .i64 z]) ∧ Below w.heap.size w w' := by
  have := Encode_any ⟨l.toArray⟩ w (by rw [size_L]; simp only [L]; omega)
  rw [show L ⟨l.toArray⟩ = l from rfl, ha, he] at this
  exact this
theorem Decode_at (l m : List UInt8) (z : Int) (w : World) (ha : decA l = m) (he : decE l = z) :
    Calls Try.prog 16 #[.string ⟨l.toArray⟩] w fun e w' => e = .returned (.tuple #[.string ⟨m.toArray⟩, .int .i64 z]) ∧ Below w.heap.size w w' := by
  have := Decode_any ⟨l.toArray⟩ w
  rw [show L ⟨l.toArray⟩ = l from rfl, ha, he] at this
  exact this
theorem At_at (l : List UInt8) (i : Int) (r : Int) (b : Bool) (w : World) (hi : i ≤ 9223372036854775807) (ha : (atR l i : Int) = r) (he : atB l i = b) :
    Calls Try.prog 21 #[.string ⟨l.toArray⟩, .int .i64 i] w fun e w' => e = .returned (.tuple #[.int .i32 r, .bool b]) ∧ Below w.heap.size w w' := by
  have := At_any ⟨l.toArray⟩ i w hi
  rw [show L ⟨l.toArray⟩ = l from rfl, ha, he] at this
  exact this
theorem Name_at (l : List UInt8) (b : Bool) (w : World) (ha : nameL l = b) :
    Calls Try.prog 24 #[.string ⟨l.toArray⟩] w fun e w' => e = .returned (.bool b) ∧ Below w.heap.size w w' := by
  have := Name_any ⟨l.toArray⟩ w
  rw [show L ⟨l.toArray⟩ = l from rfl, ha] at this
  exact this
theorem Len_at (l : List UInt8) (n : Int) (w : World) (hl : l.length ≤ 100) (ha : ((runes l).length : Int) = n) :
    Calls Try.prog 20 #[.string ⟨l.toArray⟩] w fun e w' => e = .returned (.int .i64 n) ∧ Below w.heap.size w w' := by
  have := Len_any ⟨l.toArray⟩ w (by rw [size_L]; simp only [L]; unfold maxLen; omega)
  rw [show L ⟨l.toArray⟩ = l from rfl, ha] at this
  refine this.mono ?_
  rintro e w' ⟨rfl, pos, rfl⟩
  exact ⟨rfl, (Below.refl _ _).alloc (Nat.le_refl _) _⟩

theorem ex1 : encA [97, 195, 169, 226, 130, 172] = [97, 195, 169, 226, 130, 172] ∧ encE [97, 195, 169, 226, 130, 172] = 0 := by decide +kernel
theorem ex2 : encA [0] = [192, 128] ∧ encE [0] = 0 := by decide +kernel
theorem ex3 : encA [240, 159, 152, 128] = [237, 160, 189, 237, 184, 128] ∧ encE [240, 159, 152, 128] = 0 := by decide +kernel
theorem ex4 : decA [192, 128] = [0] ∧ decE [192, 128] = 0 := by decide +kernel
theorem ex5 : decA [0] = [] ∧ decE [0] = 4 := by decide +kernel
theorem ex6 : decA [193, 129] = [] ∧ decE [193, 129] = 4 := by decide +kernel
theorem ex7 : decA [237, 160, 189] = [] ∧ decE [237, 160, 189] = 4 := by decide +kernel
theorem ex8 : decA [226, 130] = [] ∧ decE [226, 130] = 4 := by decide +kernel
theorem ex9 : (atR [97, 195, 169, 226, 130, 172] 1 : Int) = 233 ∧ atB [97, 195, 169, 226, 130, 172] 1 = true := by decide +kernel
theorem ex10 : (atR [97] 1 : Int) = 0 ∧ atB [97] 1 = false := by decide +kernel
theorem ex11 : ((runes [97, 195, 169, 226, 130, 172]).length : Int) = 3 := by decide +kernel
theorem ex12 : nameL [80, 111, 105, 110, 116] = true ∧ nameL [60, 105, 110, 105, 116, 62] = true ∧ nameL [] = false ∧ nameL [97, 32, 98] = false ∧ nameL [97, 59] = false := by decide +kernel

set_option maxRecDepth 1000000 in
set_option maxHeartbeats 1600000 in
theorem shown_any (w : World) :
    Calls Try.prog 13 #[] w fun e w' => e = .returned (.bool true) ∧ Below w.heap.size w w' := by
  have H1 := fun W => Lib.hid (Encode_at [97, 195, 169, 226, 130, 172] [97, 195, 169, 226, 130, 172] 0 W (by simp) ex1.1 ex1.2)
  have H2 := fun W => Lib.hid (Encode_at [0] [192, 128] 0 W (by simp) ex2.1 ex2.2)
  have H3 := fun W => Lib.hid (Encode_at [240, 159, 152, 128] [237, 160, 189, 237, 184, 128] 0 W (by simp) ex3.1 ex3.2)
  have H4 := fun W => Lib.hid (Decode_at [192, 128] [0] 0 W ex4.1 ex4.2)
  have H5 := fun W => Lib.hid (Decode_at [0] [] 4 W ex5.1 ex5.2)
  have H6 := fun W => Lib.hid (Decode_at [193, 129] [] 4 W ex6.1 ex6.2)
  have H7 := fun W => Lib.hid (Decode_at [237, 160, 189] [] 4 W ex7.1 ex7.2)
  have H8 := fun W => Lib.hid (Decode_at [226, 130] [] 4 W ex8.1 ex8.2)
  have H9 := fun W => Lib.hid (At_at [97, 195, 169, 226, 130, 172] 1 233 true W (by omega) ex9.1 ex9.2)
  have H10 := fun W => Lib.hid (At_at [97] 1 0 false W (by omega) ex10.1 ex10.2)
  have H11 := fun W => Lib.hid (Len_at [97, 195, 169, 226, 130, 172] 3 W (by simp) ex11)
  have N1 := fun W => Lib.hid (Name_at [80, 111, 105, 110, 116] true W ex12.1)
  have N2 := fun W => Lib.hid (Name_at [60, 105, 110, 105, 116, 62] true W ex12.2.1)
  have N3 := fun W => Lib.hid (Name_at [] false W ex12.2.2.1)
  have N4 := fun W => Lib.hid (Name_at [97, 32, 98] false W ex12.2.2.2.1)
  have N5 := fun W => Lib.hid (Name_at [97, 59] false W ex12.2.2.2.2)
  have hcv : ∀ W : World, (convert 43 9 (.slice (some ⟨W.heap.size, 0, none⟩) 1 1)).run Try.prog (W.alloc (.cells #[.int .u8 0] 5)) = .ok (.string ⟨#[0]⟩) (W.alloc (.cells #[.int .u8 0] 5)) := fun W => bytes_new W 1 [.int .u8 0] [0] rfl rfl
  go_enter Try.func13, Try.ntmps13
  go_wp2_with fail
  refine (H1 _).out.mono ?_
  rintro e w1 ⟨rfl, hb1⟩
  have hs1 := hb1.size
  go_wp2_with fail
  refine (H2 _).out.mono ?_
  rintro e w2 ⟨rfl, hb2⟩
  have hB2 : Below w.heap.size w w2 := (hb1.alloc hs1 _).trans (hb2.mono (by first | omega | (simp; omega)))
  have hs2 := hB2.size
  clear hb1 hb2 hs1
  go_wp2_with fail
  refine (H3 _).out.mono ?_
  rintro e w3 ⟨rfl, hb3⟩
  have hB3 : Below w.heap.size w w3 := hB2.trans (hb3.mono hs2)
  have hs3 := hB3.size
  clear hB2 hb3 hs2
  go_wp2_with fail
  refine (H4 _).out.mono ?_
  rintro e w4 ⟨rfl, hb4⟩
  have hB4 : Below w.heap.size w w4 := hB3.trans (hb4.mono hs3)
  have hs4 := hB4.size
  clear hB3 hb4 hs3
  go_wp2_with fail
  refine (H5 _).out.mono ?_
  rintro e w5 ⟨rfl, hb5⟩
  have hB5 : Below w.heap.size w w5 := hB4.trans (hb5.mono hs4)
  have hs5 := hB5.size
  clear hB4 hb5 hs4
  go_wp2_with fail
  refine (H6 _).out.mono ?_
  rintro e w6 ⟨rfl, hb6⟩
  have hB6 : Below w.heap.size w w6 := hB5.trans (hb6.mono hs5)
  have hs6 := hB6.size
  clear hB5 hb6 hs5
  go_wp2_with fail
  refine (H7 _).out.mono ?_
  rintro e w7 ⟨rfl, hb7⟩
  have hB7 : Below w.heap.size w w7 := hB6.trans (hb7.mono hs6)
  have hs7 := hB7.size
  clear hB6 hb7 hs6
  go_wp2_with fail
  refine (H8 _).out.mono ?_
  rintro e w8 ⟨rfl, hb8⟩
  have hB8 : Below w.heap.size w w8 := hB7.trans (hb8.mono hs7)
  have hs8 := hB8.size
  clear hB7 hb8 hs7
  go_wp2_with fail
  refine (H9 _).out.mono ?_
  rintro e w9 ⟨rfl, hb9⟩
  have hB9 : Below w.heap.size w w9 := hB8.trans (hb9.mono hs8)
  have hs9 := hB9.size
  clear hB8 hb9 hs8
  go_wp2_with fail
  refine (H10 _).out.mono ?_
  rintro e w10 ⟨rfl, hb10⟩
  have hB10 : Below w.heap.size w w10 := hB9.trans (hb10.mono hs9)
  have hs10 := hB10.size
  clear hB9 hb10 hs9
  go_wp2_with fail
  refine (H11 _).out.mono ?_
  rintro e w11 ⟨rfl, hb11⟩
  have hB11 : Below w.heap.size w w11 := (hB10.alloc hs10 _).trans (hb11.mono (by first | omega | (simp; omega)))
  have hs11 := hB11.size
  clear hb11
  go_wp2_with fail
  refine (N1 _).out.mono ?_
  rintro e w12 ⟨rfl, hb12⟩
  have hB12 : Below w.heap.size w w12 := hB11.trans (hb12.mono (by first | omega | (simp; omega)))
  have hs12 := hB12.size
  clear hb12
  go_wp2_with fail
  refine (N2 _).out.mono ?_
  rintro e w13 ⟨rfl, hb13⟩
  have hB13 : Below w.heap.size w w13 := hB12.trans (hb13.mono (by first | omega | (simp; omega)))
  have hs13 := hB13.size
  clear hb13
  go_wp2_with fail
  refine (N3 _).out.mono ?_
  rintro e w14 ⟨rfl, hb14⟩
  have hB14 : Below w.heap.size w w14 := hB13.trans (hb14.mono (by first | omega | (simp; omega)))
  have hs14 := hB14.size
  clear hb14
  go_wp2_with fail
  refine (N4 _).out.mono ?_
  rintro e w15 ⟨rfl, hb15⟩
  have hB15 : Below w.heap.size w w15 := hB14.trans (hb15.mono (by first | omega | (simp; omega)))
  have hs15 := hB15.size
  clear hb15
  go_wp2_with fail
  refine (N5 _).out.mono ?_
  rintro e w16 ⟨rfl, hb16⟩
  have hB16 : Below w.heap.size w w16 := hB15.trans (hb16.mono (by first | omega | (simp; omega)))
  have hs16 := hB16.size
  clear hb16
  go_wp2
  go_ret
  exact ⟨rfl, hB16⟩
end Go.Proofs.Ytkbnhjmpojpfhaa
