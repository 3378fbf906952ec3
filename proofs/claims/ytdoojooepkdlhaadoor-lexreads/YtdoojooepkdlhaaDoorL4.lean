/- Contracts of the library, in the words of the texts on numbers: decimal digits, beginnings of strings, a digit's place, lengths in bits. -/
import Derived.Test.YtdoojooepkdlhaaDoorW4
import Derived.Test.YtdoojooepkdlhaaDoorShelf
import Derived.Sort.Grow
namespace Go.Proofs.YtdoojooepkdlhaaDoor.W
open Go.ChangeShapes Go.WideShapes Go.RowKit

theorem grow_below (w : World) (k : Nat) (os : Array Obj) : Below w.heap.size w (Sort.grow (w.drewN k) os) :=
  ⟨rfl, rfl, rfl, by simp [Sort.grow], fun i hi => by
    simp only [Sort.grow, World.drewN]
    rw [Array.getElem?_append_left hi]⟩
theorem hasPrefix_c (s p : ByteArray) (w : World) :
    Calls Tryd.prog 38 #[.string s, .string p] w fun e w' => e = .returned (.bool (Lib.hasPrefix s.data.toList p.data.toList)) ∧ w' = w := Tryd.strings_HasPrefix s p w
theorem cutPrefix_c (s p : ByteArray) (w : World) :
    Calls Tryd.prog 53 #[.string s, .string p] w fun e w' => e = .returned (.tuple #[.string ⟨(Lib.trimPrefix s.data.toList p.data.toList).toArray⟩, .bool (Lib.hasPrefix s.data.toList p.data.toList)]) ∧ w' = w := Tryd.strings_CutPrefix s p w
theorem indexHex_c (c : UInt8) (w : World) :
    Calls Tryd.prog 49 #[.string ⟨#[48, 49, 50, 51, 52, 53, 54, 55, 56, 57, 97, 98, 99, 100, 101, 102]⟩, .int .u8 c.toNat] w fun e w' => e = .returned (.int .i64 (hexV c)) ∧ w' = w := by
  have h := Tryd.strings_IndexByte ⟨#[48, 49, 50, 51, 52, 53, 54, 55, 56, 57, 97, 98, 99, 100, 101, 102]⟩ (c.toNat : Int) w
  have e : Lib.indexByte (⟨#[48, 49, 50, 51, 52, 53, 54, 55, 56, 57, 97, 98, 99, 100, 101, 102]⟩ : ByteArray).data.toList ((c.toNat : Int).toNat.toUInt8) = hexV c := by
    have e1 : ((c.toNat : Int).toNat.toUInt8) = c := by simp
    rw [e1]
    exact index_hex c
  rw [e] at h
  exact h
theorem len64_c (x : Int) (h0 : 0 < x) (h1 : x < 18446744073709551616) (w : World) :
    Calls Tryd.prog 61 #[.int .u64 x] w fun e w' => e = .returned (.int .i64 (x.toNat.log2 + 1)) ∧ w' = w := by
  refine (Tryd.bits_Len64 x w (by omega) (by omega)).mono ?_
  rintro e w' ⟨rfl, rfl⟩
  exact ⟨by rw [bitLen_log _ (by omega) (by omega)]; rfl, rfl⟩
/-- with one table -/
theorem ctz_c (x : Int) (h0 : 0 < x) (h1 : x < 18446744073709551616) (w : World) (ht : Tabs w) :
    Calls Tryd.prog 60 #[.int .u64 x] w fun e w' => e = .returned (.int .i64 (twos x.toNat)) ∧ w' = w := by
  obtain ⟨n, rfl⟩ := Int.eq_ofNat_of_zero_le (Int.le_of_lt h0)
  refine (Tryd.bits_TrailingZeros64 n (by omega) w (fun _ => ht)).mono ?_
  rintro e w' ⟨rfl, rfl⟩
  exact ⟨by rw [ctz_twos _ (by omega) (by omega)]; rfl, rfl⟩
end Go.Proofs.YtdoojooepkdlhaaDoor.W
