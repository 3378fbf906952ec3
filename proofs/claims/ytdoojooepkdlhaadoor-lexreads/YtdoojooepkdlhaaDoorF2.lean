/- Plain facts on what package soft answers: sums and products either way round, a difference is a sum, a sign twice turned; no NaN but one. -/
import Derived.Test.YtdoojooepkdlhaaDoorSoft
import Derived.Test.YtdoojooepkdlhaaDoorFxS
namespace Go.Proofs.YtdoojooepkdlhaaDoor.W
open Ieee

theorem sum_comm (a b : Datum) : a.sum b = b.sum a := by
  cases a with
  | nan s t => cases b <;> rfl
  | infinity s =>
    cases b with
    | nan s t => rfl
    | infinity t => cases s <;> cases t <;> rfl
    | number t n j => rfl
  | number s m i =>
    cases b with
    | nan s t => rfl
    | infinity t => rfl
    | number t n j =>
      simp only [Datum.sum]
      rw [show min j i = min i j from by omega, Int.add_comm (signed s m _), Bool.and_comm s t]
theorem product_comm (a b : Datum) : a.product b = b.product a := by
  cases a with
  | nan s t => cases b <;> rfl
  | infinity s =>
    cases b with
    | nan s t => rfl
    | infinity t => simp only [Datum.product]; rw [Bool.xor_comm]
    | number t n j => rfl
  | number s m i =>
    cases b with
    | nan s t => rfl
    | infinity t => rfl
    | number t n j =>
      simp only [Datum.product]
      rw [Bool.xor_comm, Nat.mul_comm, Int.add_comm]
theorem add_comm (a b : Int) : opI .add a b = opI .add b a := by
  have e : floatBits .add .f64 a.toNat b.toNat = floatBits .add .f64 b.toNat a.toNat := by
    show ((Ieee.double.read a.toNat).sum (Ieee.double.read b.toNat)).map Ieee.double.write = ((Ieee.double.read b.toNat).sum (Ieee.double.read a.toNat)).map Ieee.double.write
    rw [sum_comm]
  unfold opI; rw [e]
theorem mul_comm (a b : Int) : opI .mul a b = opI .mul b a := by
  have e : floatBits .mul .f64 a.toNat b.toNat = floatBits .mul .f64 b.toNat a.toNat := by
    show ((Ieee.double.read a.toNat).product (Ieee.double.read b.toNat)).map Ieee.double.write = ((Ieee.double.read b.toNat).product (Ieee.double.read a.toNat)).map Ieee.double.write
    rw [product_comm]
  unfold opI; rw [e]
theorem sum_nan (a b : Datum) (h : b.isNaN = true) : a.sum b = none := by
  cases b with
  | nan s t => cases a <;> rfl
  | infinity s => cases h
  | number s m i => cases h
theorem nan_of (a : Int) (h0 : 0 ≤ a) : (Ieee.double.read a.toNat).isNaN = nanB a := by
  rw [nan_read, Int.toNat_of_nonneg h0]
theorem read_turn (a : Int) (h0 : 0 ≤ a) (h1 : a < 18446744073709551616) :
    Ieee.double.read (if a < 9223372036854775808 then a + 9223372036854775808 else a - 9223372036854775808).toNat = (Ieee.double.read a.toNat).opposite := by
  have e1 : (if a < 9223372036854775808 then a + 9223372036854775808 else a - 9223372036854775808).toNat % 9223372036854775808 = a.toNat % 9223372036854775808 := by split <;> omega
  have e2 : ((if a < 9223372036854775808 then a + 9223372036854775808 else a - 9223372036854775808).toNat / 9223372036854775808 % 2 == 1) = !(a.toNat / 9223372036854775808 % 2 == 1) := by
    rw [Bool.eq_iff_iff]; simp; split <;> omega
  rw [read_eq, read_eq, e1, e2]
  split
  · rfl
  · split
    · rfl
    · split <;> rfl
theorem negI_plain (a : Int) (hn : nanB a = false) : negI a = if a < 9223372036854775808 then a + 9223372036854775808 else a - 9223372036854775808 := by
  unfold negI; rw [if_neg (by rw [hn]; decide)]
theorem read_neg (a : Int) (h0 : 0 ≤ a) (h1 : a < 18446744073709551616) (hn : nanB a = false) : Ieee.double.read (negI a).toNat = (Ieee.double.read a.toNat).opposite := by
  rw [negI_plain a hn, read_turn a h0 h1]
theorem negI_nan (a : Int) : nanB (negI a) = nanB a := by
  cases hn : nanB a with
  | true => unfold negI; rw [if_pos hn]; decide
  | false => rw [negI_plain a hn, nan_turn, hn]
theorem sub_add (a b : Int) (h0 : 0 ≤ b) (h1 : b < 18446744073709551616) : opI .add a (negI b) = opI .sub a b := by
  have e : floatBits .add .f64 a.toNat (negI b).toNat = floatBits .sub .f64 a.toNat b.toNat := by
    show ((Ieee.double.read a.toNat).sum (Ieee.double.read (negI b).toNat)).map Ieee.double.write = ((Ieee.double.read a.toNat).sum (Ieee.double.read b.toNat).opposite).map Ieee.double.write
    cases hn : nanB b with
    | true =>
      have n1 : (Ieee.double.read (negI b).toNat).isNaN = true := by rw [nan_of _ (negI_range b h0 h1).1, negI_nan, hn]
      have n2 : (Ieee.double.read b.toNat).opposite.isNaN = true := by
        have : (Ieee.double.read b.toNat).isNaN = true := by rw [nan_of _ h0, hn]
        revert this
        cases Ieee.double.read b.toNat <;> simp [Datum.isNaN, Datum.opposite]
      rw [sum_nan _ _ n1, sum_nan _ _ n2]
    | false => rw [read_neg b h0 h1 hn]
  unfold opI; rw [e]
theorem neg_neg (a : Int) (h0 : 0 ≤ a) (h1 : a < 18446744073709551616) (hn : nanB a = false) : negI (negI a) = a := by
  rw [negI_plain (negI a) (by rw [negI_nan, hn]), negI_plain a hn]
  split <;> split <;> omega
/-- no NaN but one -/
theorem negI_canon (a : Int) : nanB (negI a) = true → negI a = 9221120237041090560 := by
  intro h; rw [negI_nan] at h; unfold negI; rw [if_pos h]
theorem floorI_nan (a : Int) (h0 : 0 ≤ a) : nanB (floorI a) = nanB a := by
  unfold floorI
  cases hn : nanB a with
  | true => rw [if_pos rfl]; decide
  | false =>
    simp only [Bool.false_eq_true, if_false]
    exact write_plain _ (by rw [integral_plain, nan_of a h0, hn])
theorem floorI_canon (a : Int) (h0 : 0 ≤ a) : nanB (floorI a) = true → floorI a = 9221120237041090560 := by
  intro h; rw [floorI_nan a h0] at h; unfold floorI; rw [if_pos h]
theorem fromI_nan (i : Int) : nanB (fromI i) = false := nearest_plain _ _ _
theorem wideI_canon (n : Int) : nanB (wideI n) = true → wideI n = 9221120237041090560 := by
  intro h; rw [wideI_nan] at h; unfold wideI; rw [if_pos h]
end Go.Proofs.YtdoojooepkdlhaaDoor.W
