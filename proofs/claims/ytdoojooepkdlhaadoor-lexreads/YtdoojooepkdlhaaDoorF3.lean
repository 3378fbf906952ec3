/- Plain facts on what package soft answers, by the exact numbers: whole numbers, floors, whole parts, sums, products and quotients that are exact. -/
import Derived.Test.YtdoojooepkdlhaaDoorF2
namespace Go.Proofs.YtdoojooepkdlhaaDoor.W
open Ieee

/-- 1, in units of the least number's place -/
def one1 : Nat := bigOf 1074
theorem one1_pos : 0 < one1 := bigOf_pos 1074
theorem pow_one1 {k : Nat} (h : k = 1074) : 2 ^ k = one1 := by rw [one1, ← h]; rfl
/-- the exact number of a pattern -/
def keyI (a : Int) : Int := key (Ieee.double.read a.toNat)
/-- a finite double's pattern -/
def finB (a : Int) : Bool := decide (a % 9223372036854775808 < 9218868437227405312)

theorem fin_read (a : Int) (h : finB a = true) : ∃ s m p, Ieee.double.read a.toNat = .number s m p := by
  rw [read_eq]
  simp only [finB, decide_eq_true_eq] at h
  split
  · exact ⟨_, _, _, rfl⟩
  · rw [if_pos (by omega)]; exact ⟨_, _, _, rfl⟩
theorem fin_of_read (a : Int) (h0 : 0 ≤ a) {s : Bool} {m : Nat} {p : Int} (h : Ieee.double.read a.toNat = .number s m p) : finB a = true := by
  rw [read_eq] at h
  simp only [finB, decide_eq_true_eq]
  split at h
  · omega
  · split at h
    · omega
    · split at h <;> cases h
theorem fin_nan (a : Int) (h : finB a = true) : nanB a = false := by
  simp only [finB, decide_eq_true_eq] at h
  simp only [nanB, decide_eq_false_iff_not]
  omega

theorem order_keyI (a b : Int) (h0 : 0 ≤ a) (h0' : a < 18446744073709551616) (h1 : 0 ≤ b) (h1' : b < 18446744073709551616) (na : nanB a = false) (nb : nanB b = false) :
    Ieee.double.order a.toNat b.toNat = some (compare (keyI a) (keyI b)) :=
  order_key (by omega) (by omega) (by rw [nan_of a h0, na]) (by rw [nan_of b h1, nb])
theorem cmp_lt (x y : Int) : (some (compare x y) == some Ordering.lt) = decide (x < y) := by
  simp only [compare, compareOfLessAndEq]
  by_cases h : x < y
  · simp [h]
  · by_cases g : x = y <;> simp [h, g]
theorem cmp_eq (x y : Int) : (some (compare x y) == some Ordering.eq) = decide (x = y) := by
  simp only [compare, compareOfLessAndEq]
  by_cases h : x < y
  · simp [h]; omega
  · by_cases g : x = y <;> simp [g, h]
theorem cmp_gt (x y : Int) : (some (compare x y) == some Ordering.gt) = decide (y < x) := by
  simp only [compare, compareOfLessAndEq]
  by_cases h : x < y
  · simp [h]; omega
  · by_cases g : x = y
    · simp [g]
    · simp [g, h]; omega
theorem lessI_key (a b : Int) (h0 : 0 ≤ a) (h0' : a < 18446744073709551616) (h1 : 0 ≤ b) (h1' : b < 18446744073709551616) (na : nanB a = false) (nb : nanB b = false) : lessI a b = decide (keyI a < keyI b) := by unfold lessI; rw [order_keyI a b h0 h0' h1 h1' na nb, cmp_lt]
theorem equalI_key (a b : Int) (h0 : 0 ≤ a) (h0' : a < 18446744073709551616) (h1 : 0 ≤ b) (h1' : b < 18446744073709551616) (na : nanB a = false) (nb : nanB b = false) : equalI a b = decide (keyI a = keyI b) := by unfold equalI; rw [order_keyI a b h0 h0' h1 h1' na nb, cmp_eq]
theorem lessEqI_key (a b : Int) (h0 : 0 ≤ a) (h0' : a < 18446744073709551616) (h1 : 0 ≤ b) (h1' : b < 18446744073709551616) (na : nanB a = false) (nb : nanB b = false) : lessEqI a b = decide (keyI a ≤ keyI b) := by
  unfold lessEqI
  rw [order_keyI a b h0 h0' h1 h1' na nb, cmp_lt, cmp_eq, Bool.eq_iff_iff]
  simp; omega
theorem order_nan (a b : Int) (h0 : 0 ≤ a) (h1 : 0 ≤ b) (h : nanB a = true ∨ nanB b = true) : Ieee.double.order a.toNat b.toNat = none := by
  have e : (Ieee.double.read a.toNat).isNaN = true ∨ (Ieee.double.read b.toNat).isNaN = true := by rw [nan_of a h0, nan_of b h1]; exact h
  unfold Format.order
  cases ea : Ieee.double.read a.toNat <;> cases eb : Ieee.double.read b.toNat <;> rw [ea, eb] at e <;> simp [Datum.isNaN] at e <;> rfl
theorem less_nan (a b : Int) (h0 : 0 ≤ a) (h1 : 0 ≤ b) (h : nanB a = true ∨ nanB b = true) : lessI a b = false ∧ equalI a b = false ∧ lessEqI a b = false := by
  unfold lessI equalI lessEqI
  rw [order_nan a b h0 h1 h]
  exact ⟨rfl, rfl, rfl⟩

/-! ### whole numbers -/
/-- the double nearest to a whole number of at most 53 digits is that number -/
theorem nearest_key (s : Bool) (n : Nat) (hn : n ≤ 9007199254740992) :
    ∃ m p, Ieee.double.read (Ieee.double.nearest s n 0) = .number s m p ∧ -1074 ≤ p ∧ p ≤ 1 ∧ m * 2 ^ (p + 1074).toNat = n * one1 := by
  by_cases h : n < 9007199254740992
  · obtain ⟨m, p, e, q1, q2, q3⟩ := read_nearest s n 0 h (by omega) (by omega)
    refine ⟨m, p, e, q1, by omega, ?_⟩
    rw [q3, Nat.mul_assoc, ← Nat.pow_add, pow_one1 (by omega)]
  · have e0 : n = 4503599627370496 * 2 ^ 1 := by omega
    have e1 : Ieee.double.nearest s n 0 = Ieee.double.nearest s 4503599627370496 1 := by
      rw [e0]; exact nearest_shift Ieee.double s 4503599627370496 1 1
    obtain ⟨m, p, e, q1, q2, q3⟩ := read_nearest s 4503599627370496 1 (by omega) (by omega) (by omega)
    rw [e1]
    refine ⟨m, p, e, q1, by omega, ?_⟩
    have e2 : 2 ^ ((1 - p).toNat + (p + 1074).toNat) = 2 ^ 1 * one1 := by
      rw [← pow_one1 (k := (1 - p).toNat + (p + 1074).toNat - 1) (by omega), ← Nat.pow_add]
      congr 1; omega
    rw [q3, e0, Nat.mul_assoc, Nat.mul_assoc, ← Nat.pow_add, e2]
theorem sgn_mul (i : Int) (s : Bool) (hs : i ≠ 0 → s = decide (i < 0)) : (if s then -1 else 1) * (i.natAbs : Int) = i := by
  by_cases h : i = 0
  · subst h; cases s <;> rfl
  · rw [hs h]
    by_cases g : i < 0
    · simp [g]; omega
    · simp [g]; omega
theorem fromI_key (i : Int) (hi : i.natAbs ≤ 9007199254740992) : finB (fromI i) = true ∧ keyI (fromI i) = i * one1 := by
  obtain ⟨m, p, e, q1, q2, q3⟩ := nearest_key (decide (i < 0)) i.natAbs hi
  have e' : Ieee.double.read (fromI i).toNat = .number (decide (i < 0)) m p := e
  refine ⟨fin_of_read _ (fromI_range i).1 e', ?_⟩
  unfold keyI
  rw [e', key, signed_eq, q3, Int.natCast_mul, ← Int.mul_assoc, sgn_mul i _ (fun _ => rfl)]

/-- where a quotient by one lies -/
theorem quo_unique (q t : Int) (k : Int) (h1 : q * one1 ≤ k) (h2 : k < q * one1 + one1) (h3 : t * one1 ≤ k) (h4 : k < t * one1 + one1) : q = t := by
  have p : (0 : Int) < one1 := by have := one1_pos; omega
  have a : q < t + 1 := Int.lt_of_mul_lt_mul_right (a := (one1 : Int)) (by rw [Int.add_mul]; omega) (by omega)
  have b : t < q + 1 := Int.lt_of_mul_lt_mul_right (a := (one1 : Int)) (by rw [Int.add_mul]; omega) (by omega)
  omega
end Go.Proofs.YtdoojooepkdlhaaDoor.W
