/- Contracts of package soft and of its reference: sums, differences, products, quotients, signs, floors, orders; one plain function says what both answer. -/
import Derived.Test.YtdoojooepkdlhaaDoorSLeaf
namespace Go.Proofs.YtdoojooepkdlhaaDoor.W
open Go.ChangeShapes Go.WideShapes Go.RowKit

theorem xor_sign (a : Int) (h0 : 0 ≤ a) (h1 : a < 18446744073709551616) : bits .xor .u64 a 9223372036854775808 = if a < 9223372036854775808 then a + 9223372036854775808 else a - 9223372036854775808 := by
  rw [u64_xor a 9223372036854775808 h0 h1 (by decide) (by decide)]
  have key : ∀ x : Nat, x < 2 ^ 63 → x ^^^ 2 ^ 63 = 2 ^ 63 + x := by
    intro x hx
    rw [← nat_join 63 (2 ^ 63) x (by decide) hx]
    apply Nat.eq_of_testBit_eq
    intro i
    rw [Nat.testBit_xor, Nat.testBit_or, Nat.testBit_two_pow]
    by_cases h : 63 = i
    · subst h; rw [Nat.testBit_lt_two_pow hx]; simp
    · simp [h]
  have e : (9223372036854775808 : Int).toNat = 2 ^ 63 := by decide
  rw [e]
  by_cases h : a < 9223372036854775808
  · rw [if_pos h, key _ (by omega)]; omega
  · rw [if_neg h]
    have e2 : a.toNat = (a - 9223372036854775808).toNat ^^^ 2 ^ 63 := by rw [key _ (by omega)]; omega
    rw [e2, Nat.xor_assoc, Nat.xor_self, Nat.xor_zero]
    omega

/-- what Neg answers -/
def negI (a : Int) : Int := if nanB a = true then 9221120237041090560 else if a < 9223372036854775808 then a + 9223372036854775808 else a - 9223372036854775808
theorem nan_turn (a : Int) : nanB (if a < 9223372036854775808 then a + 9223372036854775808 else a - 9223372036854775808) = nanB a := by
  unfold nanB
  split <;> congr 1 <;> (apply propext) <;> constructor <;> intro h <;> omega
theorem negI_range (a : Int) (h0 : 0 ≤ a) (h1 : a < 18446744073709551616) : 0 ≤ negI a ∧ negI a < 18446744073709551616 := by
  unfold negI; split <;> (try split) <;> omega
/-- what FromInt answers -/
def fromI (i : Int) : Int := (floatOfInt .f64 i : Nat)
theorem fromI_range (i : Int) : 0 ≤ fromI i ∧ fromI i < 18446744073709551616 := by
  have : floatOfInt .f64 i < 18446744073709551616 := write_lt (.number (i < 0) i.natAbs 0)
  unfold fromI; omega
theorem fromI_plain (i : Int) : fltW (floatOfInt .f64 i : Nat) = fromI i := by
  have : nanB (floatOfInt .f64 i : Nat) = false := nearest_plain _ _ _
  simp [fltW, this, fromI]
def lessI (a b : Int) : Bool := Ieee.double.order a.toNat b.toNat == some .lt
def equalI (a b : Int) : Bool := Ieee.double.order a.toNat b.toNat == some .eq
def lessEqI (a b : Int) : Bool := Ieee.double.order a.toNat b.toNat == some .lt || Ieee.double.order a.toNat b.toNat == some .eq

theorem run_same (src dst : TypeId) (x : Nat) (hs : (Tryd.prog.underlying src).isSome = true) (hd : Tryd.prog.underlying dst = some (.float .f64)) (w : World) :
    (convert src dst (.float .f64 x)).run Tryd.prog w = .ok (.float .f64 x) w := run_convert_float_float w src dst .f64 .f64 x x hs hd (by simp [floatToFloatBits])
/-- does a double's whole part fit into 64 bits? -/
def fitsB (a : Int) : Bool := (Ieee.double.order a.toNat 14114281232179134464 == some .gt || Ieee.double.order a.toNat 14114281232179134464 == some .eq) && Ieee.double.order a.toNat 4890909195324358656 == some .lt
end Go.Proofs.YtdoojooepkdlhaaDoor.W
