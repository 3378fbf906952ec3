import Derived.Test.YtgkakflnmpoadaaGreatDoorBase10
import Derived.Test.YtgkakflnmpoadaaGreatDoorBase0
import Derived.BigQuiet
/- Plain facts on what package soft answers, by the exact numbers: whole parts, floors, sums, differences, products and quotients that are exact. -/
namespace Go.Proofs.YtgkakflnmpoadaaGreatDoor.W.Nu
open Ieee

theorem signed_v (s : Bool) (m k : Nat) : signed s m k = if s then -((m * 2 ^ k : Nat) : Int) else ((m * 2 ^ k : Nat) : Int) := by
  unfold signed; rw [Nat.shiftLeft_eq]
end Go.Proofs.YtgkakflnmpoadaaGreatDoor.W.Nu
/- Plain facts on what package soft answers, by the exact numbers: sums, products and quotients of whole numbers; by one, by itself. -/
namespace Go.Proofs.YtgkakflnmpoadaaGreatDoor.W.Nu
open Ieee

end Go.Proofs.YtgkakflnmpoadaaGreatDoor.W.Nu
/- Plain facts on what package soft answers, by the exact numbers: quotients of whole numbers; by one, by itself, to nought. -/
namespace Go.Proofs.YtgkakflnmpoadaaGreatDoor.W.Nu
open Ieee

/-! ### by one, by itself, to nought -/
theorem read_one : Ieee.double.read (4607182418800017408 : Int).toNat = .number false 4503599627370496 (-52) := by decide +kernel
/-- a pattern that is no NaN is a number's or an infinity's -/
theorem plain_read (a : Int) (h0 : 0 ≤ a) (hn : nanB a = false) : (∃ s m p, Ieee.double.read a.toNat = .number s m p) ∨ ∃ s, Ieee.double.read a.toNat = .infinity s := by
  cases e : Ieee.double.read a.toNat with
  | number s m p => exact Or.inl ⟨s, m, p, rfl⟩
  | infinity s => exact Or.inr ⟨s, rfl⟩
  | nan s t => have := nan_of a h0; rw [e, hn] at this; cases this
theorem mul_one (a : Int) (h0 : 0 ≤ a) (h1 : a < 18446744073709551616) (hn : nanB a = false) : opI .mul a 4607182418800017408 = a := by
  have x : floatBits .mul .f64 a.toNat (4607182418800017408 : Int).toNat = ((Ieee.double.read a.toNat).product (Ieee.double.read (4607182418800017408 : Int).toNat)).map Ieee.double.write := rfl
  unfold opI
  rw [x, read_one]
  rcases plain_read a h0 hn with ⟨s, m, p, e⟩ | ⟨s, e⟩
  · rw [e]
    show ((Ieee.double.nearest (s ^^ false) (m * 4503599627370496) (p + -52) : Nat) : Int) = a
    have := nearest_shift Ieee.double s m 52 p
    rw [show (4503599627370496 : Nat) = 2 ^ 52 from by decide, Bool.xor_false, show p + -52 = p - (52 : Nat) from by omega, this, write_read (by omega) e]
    omega
  · rw [e]
    show ((Ieee.double.write (.infinity (s ^^ false)) : Nat) : Int) = a
    rw [Bool.xor_false, write_inf (by omega) e]
    omega
end Go.Proofs.YtgkakflnmpoadaaGreatDoor.W.Nu
/- Contracts of package num: the order of two numbers, by their exact numbers. -/
namespace Go.Proofs.YtgkakflnmpoadaaGreatDoor.W.Nu
open Go.ChangeShapes Go.WideShapes Go.RowKit

/-- what a number must be: a whole number of 64 bits, a pattern of 64 bits -/
def inN (i u : Int) : Prop := (-9223372036854775808 ≤ i ∧ i < 9223372036854775808) ∧ 0 ≤ u ∧ u < 18446744073709551616
end Go.Proofs.YtgkakflnmpoadaaGreatDoor.W.Nu
/- Package ops: jobs that compare; Binary over them. -/
namespace Go.Proofs.YtgkakflnmpoadaaGreatDoor.W.Nu
open Go.ChangeShapes Go.WideShapes Go.RowKit Go.Shelf
set_option linter.unusedVariables false
section
variable {W : World} {hb vb : Nat} {vw vr : Value}
end
end Go.Proofs.YtgkakflnmpoadaaGreatDoor.W.Nu
/- Package ops: comparing operators on numbers, in words. -/
namespace Go.Proofs.YtgkakflnmpoadaaGreatDoor.W.Nu
open Go.ChangeShapes Go.WideShapes Go.RowKit Go.Shelf
set_option linter.unusedVariables false
/-- what stands behind an order's first captured variable -/
def PF (g : Nat) (w : World) (cp : Nat) : Prop := w.cell? ⟨cp, 0, none⟩ = some (.func (.func g) #[] #[])
def PS (g : Nat) (w : World) (cp : Nat) : Prop := ∃ cs, w.cell? ⟨cp, 0, none⟩ = some (.func (.func 205) #[] #[.pointer (some ⟨cs, 0, none⟩)]) ∧ w.cell? ⟨cs, 0, none⟩ = some (.func (.func g) #[] #[])
theorem PF.keep {g : Nat} (w w' : World) (cp : Nat) (h : PF g w cp) (hB : Below w.heap.size w w') : PF g w' cp := cell_keep hB h
theorem PS.keep {g : Nat} (w w' : World) (cp : Nat) (h : PS g w cp) (hB : Below w.heap.size w w') : PS g w' cp := by
  obtain ⟨cs, h1, h2⟩ := h
  exact ⟨cs, cell_keep hB h1, cell_keep hB h2⟩
/-- a number that stands in a word: whole, or a double (its own pattern) -/
def IsNum (H : List (Option Hc)) (w : Nat) (a : Bool) (i u : Int) : Prop := (a = true ∧ u = 0 ∧ IsInt H w i ∧ -9223372036854775808 ≤ i ∧ i < 9223372036854775808) ∨ (a = false ∧ i = 0 ∧ (w : Int) = u ∧ Go.Proofs.YtgkakflnmpoadaaGreatDoor.W.cls u = 1 ∧ w < 18446744073709551616)
def kV (a : Bool) : Int := if a = true then 2 else 3
theorem IsNum.lt {H : List (Option Hc)} {w : Nat} {a : Bool} {i u : Int} (h : IsNum H w a i u) : w < 18446744073709551616 := by
  rcases h with ⟨_, _, h, _⟩ | ⟨_, _, _, _, h⟩
  · exact IsInt.lt h
  · exact h
theorem IsNum.inN {H : List (Option Hc)} {w : Nat} {a : Bool} {i u : Int} (h : IsNum H w a i u) : inN i u := by
  rcases h with ⟨_, rfl, _, h⟩ | ⟨_, rfl, h1, _, h⟩
  · exact ⟨h, by omega, by omega⟩
  · exact ⟨by omega, by omega, by omega⟩
theorem IsNum.ext {H H' : List (Option Hc)} {w : Nat} {a : Bool} {i u : Int} (h : IsNum H w a i u) (he : Ext H H') : IsNum H' w a i u := by
  rcases h with ⟨h1, h2, h3, h4⟩ | h
  · exact .inl ⟨h1, h2, h3.ext he, h4⟩
  · exact .inr h
theorem unbox_n {W : World} {S : Nat → Prop} {hb : Nat} {H : List (Option Hc)} {u' : Nat} (q : HSt W S hb H u') (w : Nat) (a : Bool) (i u : Int) (h : IsNum H w a i u) :
    Calls Tryz.prog 14 #[.pointer (some ⟨hb, 0, none⟩), .int .u64 w] W fun e w' => e = .returned (.tuple #[.agg #[.int .i64 (kV a), .int .i64 i, .int .u64 u, .string ⟨#[]⟩, .int .u64 0], .int .i64 0]) ∧ Below W.heap.size W w' := by
  rcases h with ⟨rfl, rfl, h, _⟩ | ⟨rfl, rfl, h, hc, hl⟩
  · exact unbox_int q w i h
  · rw [h]
    exact unbox_flt u (by omega) (by omega) hc _ W
theorem IsNum.shape {H : List (Option Hc)} {w : Nat} {a : Bool} {i u : Int} (h : IsNum H w a i u) : (a = true ∧ u = 0) ∨ (a = false ∧ i = 0) := by
  rcases h with ⟨h1, h2, _⟩ | ⟨h1, h2, _⟩
  · exact .inl ⟨h1, h2⟩
  · exact .inr ⟨h1, h2⟩
section
variable {W0 W : World} {hb : Nat} {H : List (Option Hc)} {u' : Nat} {K : Nat → Prop}
end
end Go.Proofs.YtgkakflnmpoadaaGreatDoor.W.Nu
/- A row of one's own beside a heap, of whatever one-celled kind. -/
namespace Go.Proofs.YtgkakflnmpoadaaGreatDoor.W.Nu
open Go.ChangeShapes Go.WideShapes Go.RowKit Go.Shelf
set_option linter.unusedVariables false
section
variable {W0 W : World} {hb : Nat} {H : List (Option Hc)} {u : Nat} {K : Nat → Prop}
/-- a row of truths of one's own, behind block B -/
structure MineB (B : Nat) (W : World) (K : Nat → Prop) (v : Value) (l : List Bool) : Prop where
  row : W.ownsRow B 4 1 v l.length (l.map Value.bool)
  keep : ∀ k, v.ownBlock = some k → K k
  len : l.length ≤ 900000
theorem MineB.below {B : Nat} {W' : World} {v : Value} {l : List Bool} (o : MineB B W K v l) (hB : Below W.heap.size W W') : MineB B W' K v l :=
  ⟨owns_on o.row (fun k e => hB.block k (o.row.lt k e).2), o.keep, o.len⟩
end
/-- a world behind which old blocks are as they were -/
structure BW (w : World) where
  w' : World
  h : Below w.heap.size w w'
theorem BW.cell {w : World} {a : Addr} {v : Value} (h : w.cell? a = some v) (p : BW w) : p.w'.cell? a = some v := cell_keep p.h h
theorem flt_num {H : List (Option Hc)} {w : Nat} {n : Int} (h : (w : Int) = Go.Proofs.YtgkakflnmpoadaaGreatDoor.W.fltW n) (hl : w < 18446744073709551616) : IsNum H w false 0 (Go.Proofs.YtgkakflnmpoadaaGreatDoor.W.fltW n) := .inr ⟨rfl, rfl, h, fltW_cls n, hl⟩
end Go.Proofs.YtgkakflnmpoadaaGreatDoor.W.Nu
