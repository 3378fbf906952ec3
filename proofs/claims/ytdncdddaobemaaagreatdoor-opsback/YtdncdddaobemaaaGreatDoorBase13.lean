import Derived.Test.YtdncdddaobemaaaGreatDoorBase12
import Derived.Test.YtdncdddaobemaaaGreatDoorBase0
/- Plain facts on words of IEEE 754 of 32 bits, and on their way to 64 bits and back. -/
namespace Go.Proofs.YtdncdddaobemaaaGreatDoor.W.Nu
open Ieee

end Go.Proofs.YtdncdddaobemaaaGreatDoor.W.Nu
/- Plain facts on what package soft answers: sums and products either way round, a difference is a sum, a sign twice turned; no NaN but one. -/
namespace Go.Proofs.YtdncdddaobemaaaGreatDoor.W.Nu
open Ieee

theorem sum_comm (a b : Datum) : a.sum b = b.sum a := by
  cases a with
  | nan s t => cases b <;> rfl
  | infinity s =>
    cases b with
    | nan s t => rfl
    | infinity t => cases s <;> cases t <;> rfl
    | number t n j => rfl
  | number s m i =>
    cases b with
    | nan s t => rfl
    | infinity t => rfl
    | number t n j =>
      simp only [Datum.sum]
      rw [show min j i = min i j from by omega, Int.add_comm (signed s m _), Bool.and_comm s t]
theorem product_comm (a b : Datum) : a.product b = b.product a := by
  cases a with
  | nan s t => cases b <;> rfl
  | infinity s =>
    cases b with
    | nan s t => rfl
    | infinity t => simp only [Datum.product]; rw [Bool.xor_comm]
    | number t n j => rfl
  | number s m i =>
    cases b with
    | nan s t => rfl
    | infinity t => rfl
    | number t n j =>
      simp only [Datum.product]
      rw [Bool.xor_comm, Nat.mul_comm, Int.add_comm]
theorem add_comm (a b : Int) : opI .add a b = opI .add b a := by
  have e : floatBits .add .f64 a.toNat b.toNat = floatBits .add .f64 b.toNat a.toNat := by
    show ((Ieee.double.read a.toNat).sum (Ieee.double.read b.toNat)).map Ieee.double.write = ((Ieee.double.read b.toNat).sum (Ieee.double.read a.toNat)).map Ieee.double.write
    rw [sum_comm]
  unfold opI; rw [e]
theorem mul_comm (a b : Int) : opI .mul a b = opI .mul b a := by
  have e : floatBits .mul .f64 a.toNat b.toNat = floatBits .mul .f64 b.toNat a.toNat := by
    show ((Ieee.double.read a.toNat).product (Ieee.double.read b.toNat)).map Ieee.double.write = ((Ieee.double.read b.toNat).product (Ieee.double.read a.toNat)).map Ieee.double.write
    rw [product_comm]
  unfold opI; rw [e]
theorem nan_of (a : Int) (h0 : 0 ≤ a) : (Ieee.double.read a.toNat).isNaN = nanB a := by
  rw [nan_read, Int.toNat_of_nonneg h0]
end Go.Proofs.YtdncdddaobemaaaGreatDoor.W.Nu
/- Plain facts on what package soft answers, by the exact numbers: whole numbers, floors, whole parts, sums, products and quotients that are exact. -/
namespace Go.Proofs.YtdncdddaobemaaaGreatDoor.W.Nu
open Ieee

/-- the exact number of a pattern -/
def keyI (a : Int) : Int := key (Ieee.double.read a.toNat)
/-- a finite double's pattern -/
def finB (a : Int) : Bool := decide (a % 9223372036854775808 < 9218868437227405312)

theorem fin_read (a : Int) (h : finB a = true) : ∃ s m p, Ieee.double.read a.toNat = .number s m p := by
  rw [read_eq]
  simp only [finB, decide_eq_true_eq] at h
  split
  · exact ⟨_, _, _, rfl⟩
  · rw [if_pos (by omega)]; exact ⟨_, _, _, rfl⟩
end Go.Proofs.YtdncdddaobemaaaGreatDoor.W.Nu
/- Plain facts on what package soft answers, by the exact numbers: whole parts, floors, sums, differences, products and quotients that are exact. -/
namespace Go.Proofs.YtdncdddaobemaaaGreatDoor.W.Nu
open Ieee

theorem signed_v (s : Bool) (m k : Nat) : signed s m k = if s then -((m * 2 ^ k : Nat) : Int) else ((m * 2 ^ k : Nat) : Int) := by
  unfold signed; rw [Nat.shiftLeft_eq]
end Go.Proofs.YtdncdddaobemaaaGreatDoor.W.Nu
/- Plain facts on what package soft answers, by the exact numbers: sums, products and quotients of whole numbers; by one, by itself. -/
namespace Go.Proofs.YtdncdddaobemaaaGreatDoor.W.Nu
open Ieee

end Go.Proofs.YtdncdddaobemaaaGreatDoor.W.Nu
/- Plain facts on what package soft answers, by the exact numbers: quotients of whole numbers; by one, by itself, to nought. -/
namespace Go.Proofs.YtdncdddaobemaaaGreatDoor.W.Nu
open Ieee

/-! ### by one, by itself, to nought -/
theorem read_one : Ieee.double.read (4607182418800017408 : Int).toNat = .number false 4503599627370496 (-52) := by decide +kernel
/-- a pattern that is no NaN is a number's or an infinity's -/
theorem plain_read (a : Int) (h0 : 0 ≤ a) (hn : nanB a = false) : (∃ s m p, Ieee.double.read a.toNat = .number s m p) ∨ ∃ s, Ieee.double.read a.toNat = .infinity s := by
  cases e : Ieee.double.read a.toNat with
  | number s m p => exact Or.inl ⟨s, m, p, rfl⟩
  | infinity s => exact Or.inr ⟨s, rfl⟩
  | nan s t => have := nan_of a h0; rw [e, hn] at this; cases this
theorem mul_one (a : Int) (h0 : 0 ≤ a) (h1 : a < 18446744073709551616) (hn : nanB a = false) : opI .mul a 4607182418800017408 = a := by
  have x : floatBits .mul .f64 a.toNat (4607182418800017408 : Int).toNat = ((Ieee.double.read a.toNat).product (Ieee.double.read (4607182418800017408 : Int).toNat)).map Ieee.double.write := rfl
  unfold opI
  rw [x, read_one]
  rcases plain_read a h0 hn with ⟨s, m, p, e⟩ | ⟨s, e⟩
  · rw [e]
    show ((Ieee.double.nearest (s ^^ false) (m * 4503599627370496) (p + -52) : Nat) : Int) = a
    have := nearest_shift Ieee.double s m 52 p
    rw [show (4503599627370496 : Nat) = 2 ^ 52 from by decide, Bool.xor_false, show p + -52 = p - (52 : Nat) from by omega, this, write_read (by omega) e]
    omega
  · rw [e]
    show ((Ieee.double.write (.infinity (s ^^ false)) : Nat) : Int) = a
    rw [Bool.xor_false, write_inf (by omega) e]
    omega
end Go.Proofs.YtdncdddaobemaaaGreatDoor.W.Nu
/- Contracts of package num: the order of two numbers, by their exact numbers. -/
namespace Go.Proofs.YtdncdddaobemaaaGreatDoor.W.Nu
open Go.ChangeShapes Go.WideShapes Go.RowKit

/-- what a number must be: a whole number of 64 bits, a pattern of 64 bits -/
def inN (i u : Int) : Prop := (-9223372036854775808 ≤ i ∧ i < 9223372036854775808) ∧ 0 ≤ u ∧ u < 18446744073709551616
end Go.Proofs.YtdncdddaobemaaaGreatDoor.W.Nu
/- Package ops: jobs that compare; Binary over them. -/
namespace Go.Proofs.YtdncdddaobemaaaGreatDoor.W.Nu
open Go.ChangeShapes Go.WideShapes Go.RowKit Go.Shelf
set_option linter.unusedVariables false
section
variable {W : World} {hb vb : Nat} {vw vr : Value}
end
end Go.Proofs.YtdncdddaobemaaaGreatDoor.W.Nu
