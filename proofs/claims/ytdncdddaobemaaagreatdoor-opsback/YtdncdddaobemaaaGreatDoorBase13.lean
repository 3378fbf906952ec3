import Derived.Test.YtdncdddaobemaaaGreatDoorBase12
import Derived.Test.YtdncdddaobemaaaGreatDoorBase0
/- Plain facts on words of IEEE 754 of 32 bits, and on their way to 64 bits and back. -/
namespace Go.Proofs.YtdncdddaobemaaaGreatDoor.W.Nu
open Ieee

theorem S_sign : Ieee.single.signWeight = 2147483648 := by decide
theorem S_bin : Ieee.single.binade = 8388608 := by decide
theorem S_inf : Ieee.single.infRung = 2139095040 := by decide
theorem S_least : Ieee.single.leastPlace = -149 := by decide
theorem wordS_eq (s : Bool) (r : Nat) : Ieee.single.word s r = (if s then 2147483648 else 0) + r := by
  unfold Format.word
  rw [S_sign]
  cases s <;> simp
theorem readS_eq (x : Nat) : Ieee.single.read x =
    if x % 2147483648 < 8388608 then .number (x / 2147483648 % 2 == 1) (x % 2147483648) (-149)
    else if x % 2147483648 < 2139095040 then
      .number (x / 2147483648 % 2 == 1) (8388608 + x % 2147483648 % 8388608) (-149 + (x % 2147483648 / 8388608 - 1 : Nat))
    else if x % 2147483648 = 2139095040 then .infinity (x / 2147483648 % 2 == 1)
    else .nan (x / 2147483648 % 2 == 1) (x % 2147483648 - 2139095040) := by
  unfold Format.read
  simp only [S_sign, S_bin, S_inf, S_least]
theorem readS_number {x : Nat} {s : Bool} {m : Nat} {p : Int} (hx : x < 4294967296) (h : Ieee.single.read x = .number s m p) :
    m < 16777216 ∧ -149 ≤ p ∧ p ≤ 104 ∧ (8388608 ≤ m ∨ p = -149) ∧ x = (if s then 2147483648 else 0) + ((p + 149).toNat * 8388608 + m) := by
  rw [readS_eq] at h
  have hs : (if (x / 2147483648 % 2 == 1) = true then 2147483648 else 0) = x / 2147483648 * 2147483648 := by
    by_cases g : x / 2147483648 % 2 = 1
    · simp [g]; omega
    · simp [g]; omega
  split at h
  · cases h
    refine ⟨by omega, by omega, by omega, Or.inr rfl, ?_⟩
    rw [hs]; omega
  · split at h
    · cases h
      refine ⟨by omega, by omega, by omega, Or.inl (by omega), ?_⟩
      rw [hs]; omega
    · split at h <;> cases h
theorem writeS_read {x : Nat} {s : Bool} {m : Nat} {p : Int} (hx : x < 4294967296) (h : Ieee.single.read x = .number s m p) : Ieee.single.nearest s m p = x := by
  obtain ⟨h1, h2, h3, h4, h5⟩ := readS_number hx h
  unfold Format.nearest
  by_cases h0 : m = 0
  · subst h0
    rw [if_pos rfl, wordS_eq, h5]
    have : p = -149 := by omega
    subst this
    simp
  · rw [if_neg h0]
    have hl : m.log2 ≤ 23 := by
      have : m.log2 < 24 := (Nat.log2_lt h0).2 (by omega)
      omega
    have hL : max (p + (m.log2 : Nat) - ((Ieee.single.fractionBits : Nat) : Int)) Ieee.single.leastPlace = p := by
      rw [S_least]
      show max (p + (m.log2 : Nat) - 23) (-149) = p
      rcases h4 with h4 | h4
      · have : 23 ≤ m.log2 := (Nat.le_log2 h0).2 (by omega)
        omega
      · omega
    simp only [hL]
    rw [cut_even]
    simp only [Int.sub_self, Int.toNat_zero, Nat.shiftLeft_zero, Nat.pow_zero, cutE_one, S_least, S_bin, S_inf, wordS_eq]
    rw [h5, show p - -149 = p + 149 from by omega, Nat.min_eq_left (by omega)]
theorem writeS_inf {x : Nat} {s : Bool} (hx : x < 4294967296) (h : Ieee.single.read x = .infinity s) : Ieee.single.write (.infinity s) = x := by
  have e : Ieee.single.write (.infinity s) = Ieee.single.word s Ieee.single.infRung := rfl
  rw [e, wordS_eq, S_inf]
  rw [readS_eq] at h
  split at h
  · cases h
  · split at h
    · cases h
    · split at h
      · rename_i h1 h2 h3
        cases h
        by_cases g : x / 2147483648 % 2 = 1
        · simp [g]; omega
        · simp [g]; omega
      · cases h

/-- a number of 32 bits is a double -/
theorem wide_fin {x : Nat} (hx : x < 4294967296) (s : Bool) (m : Nat) (p : Int) (h : Ieee.single.read x = .number s m p) : (Ieee.double.read (Ieee.double.write (.number s m p))).isInfinity = false := by
  obtain ⟨h1, h2, h3, -, -⟩ := readS_number hx h
  obtain ⟨m', p', e, -, -, -⟩ := read_nearest s m p (by omega) (by omega) (by omega)
  have e' : Ieee.double.read (Ieee.double.write (.number s m p)) = .number s m' p' := e
  rw [e']; rfl
theorem wideI_nan (n : Int) : nanB (wideI n) = (Ieee.single.read n.toNat).isNaN := by
  unfold wideI
  cases h : (Ieee.single.read n.toNat).isNaN with
  | true => simp [nanB]
  | false => simp [write_plain _ h]
theorem read_inf (s : Bool) : Ieee.double.read (Ieee.double.write (.infinity s)) = .infinity s := by cases s <;> decide +kernel
/-- there and back -/
theorem narrow_wide (n : Int) (h1 : n < 4294967296) (hn : (Ieee.single.read n.toNat).isNaN = false) : floatToFloatBits .f64 (wideI n).toNat .f32 = some n.toNat := by
  have hx : n.toNat < 4294967296 := by omega
  have e0 : (wideI n).toNat = Ieee.double.write (Ieee.single.read n.toNat) := by
    unfold wideI; rw [hn]; simp
  rw [e0]
  unfold floatToFloatBits
  rw [if_neg (by decide)]
  show (match Ieee.double.read (Ieee.double.write (Ieee.single.read n.toNat)) with
    | .nan _ _ => none
    | .infinity s => some (Ieee.single.write (.infinity s))
    | .number s m e => if (Ieee.single.read (Ieee.single.write (.number s m e))).isInfinity then none else some (Ieee.single.write (.number s m e))) = some n.toNat
  cases h : Ieee.single.read n.toNat with
  | nan s t => rw [h] at hn; cases hn
  | infinity s => rw [read_inf]; simp only; rw [writeS_inf hx h]
  | number s m p =>
    obtain ⟨g1, g2, g3, -, -⟩ := readS_number hx h
    obtain ⟨m', p', e, q1, q2, q3⟩ := read_nearest s m p (by omega) (by omega) (by omega)
    have e' : Ieee.double.read (Ieee.double.write (.number s m p)) = .number s m' p' := e
    rw [e']
    have e2 : Ieee.single.write (.number s m' p') = n.toNat := by
      show Ieee.single.nearest s m' p' = n.toNat
      rw [← writeS_read hx h]
      refine nearest_same Ieee.single s m' m p' p p' (by omega) q2 ?_
      rw [q3]; simp
    simp only [e2, h]
    rfl
end Go.Proofs.YtdncdddaobemaaaGreatDoor.W.Nu
/- Plain facts on what package soft answers: sums and products either way round, a difference is a sum, a sign twice turned; no NaN but one. -/
namespace Go.Proofs.YtdncdddaobemaaaGreatDoor.W.Nu
open Ieee

theorem sum_comm (a b : Datum) : a.sum b = b.sum a := by
  cases a with
  | nan s t => cases b <;> rfl
  | infinity s =>
    cases b with
    | nan s t => rfl
    | infinity t => cases s <;> cases t <;> rfl
    | number t n j => rfl
  | number s m i =>
    cases b with
    | nan s t => rfl
    | infinity t => rfl
    | number t n j =>
      simp only [Datum.sum]
      rw [show min j i = min i j from by omega, Int.add_comm (signed s m _), Bool.and_comm s t]
theorem product_comm (a b : Datum) : a.product b = b.product a := by
  cases a with
  | nan s t => cases b <;> rfl
  | infinity s =>
    cases b with
    | nan s t => rfl
    | infinity t => simp only [Datum.product]; rw [Bool.xor_comm]
    | number t n j => rfl
  | number s m i =>
    cases b with
    | nan s t => rfl
    | infinity t => rfl
    | number t n j =>
      simp only [Datum.product]
      rw [Bool.xor_comm, Nat.mul_comm, Int.add_comm]
theorem add_comm (a b : Int) : opI .add a b = opI .add b a := by
  have e : floatBits .add .f64 a.toNat b.toNat = floatBits .add .f64 b.toNat a.toNat := by
    show ((Ieee.double.read a.toNat).sum (Ieee.double.read b.toNat)).map Ieee.double.write = ((Ieee.double.read b.toNat).sum (Ieee.double.read a.toNat)).map Ieee.double.write
    rw [sum_comm]
  unfold opI; rw [e]
theorem mul_comm (a b : Int) : opI .mul a b = opI .mul b a := by
  have e : floatBits .mul .f64 a.toNat b.toNat = floatBits .mul .f64 b.toNat a.toNat := by
    show ((Ieee.double.read a.toNat).product (Ieee.double.read b.toNat)).map Ieee.double.write = ((Ieee.double.read b.toNat).product (Ieee.double.read a.toNat)).map Ieee.double.write
    rw [product_comm]
  unfold opI; rw [e]
theorem sum_nan (a b : Datum) (h : b.isNaN = true) : a.sum b = none := by
  cases b with
  | nan s t => cases a <;> rfl
  | infinity s => cases h
  | number s m i => cases h
theorem nan_of (a : Int) (h0 : 0 ≤ a) : (Ieee.double.read a.toNat).isNaN = nanB a := by
  rw [nan_read, Int.toNat_of_nonneg h0]
theorem read_turn (a : Int) (h0 : 0 ≤ a) (h1 : a < 18446744073709551616) :
    Ieee.double.read (if a < 9223372036854775808 then a + 9223372036854775808 else a - 9223372036854775808).toNat = (Ieee.double.read a.toNat).opposite := by
  have e1 : (if a < 9223372036854775808 then a + 9223372036854775808 else a - 9223372036854775808).toNat % 9223372036854775808 = a.toNat % 9223372036854775808 := by split <;> omega
  have e2 : ((if a < 9223372036854775808 then a + 9223372036854775808 else a - 9223372036854775808).toNat / 9223372036854775808 % 2 == 1) = !(a.toNat / 9223372036854775808 % 2 == 1) := by
    rw [Bool.eq_iff_iff]; simp; split <;> omega
  rw [read_eq, read_eq, e1, e2]
  split
  · rfl
  · split
    · rfl
    · split <;> rfl
theorem negI_plain (a : Int) (hn : nanB a = false) : negI a = if a < 9223372036854775808 then a + 9223372036854775808 else a - 9223372036854775808 := by
  unfold negI; rw [if_neg (by rw [hn]; decide)]
theorem read_neg (a : Int) (h0 : 0 ≤ a) (h1 : a < 18446744073709551616) (hn : nanB a = false) : Ieee.double.read (negI a).toNat = (Ieee.double.read a.toNat).opposite := by
  rw [negI_plain a hn, read_turn a h0 h1]
theorem negI_nan (a : Int) : nanB (negI a) = nanB a := by
  cases hn : nanB a with
  | true => unfold negI; rw [if_pos hn]; decide
  | false => rw [negI_plain a hn, nan_turn, hn]
theorem sub_add (a b : Int) (h0 : 0 ≤ b) (h1 : b < 18446744073709551616) : opI .add a (negI b) = opI .sub a b := by
  have e : floatBits .add .f64 a.toNat (negI b).toNat = floatBits .sub .f64 a.toNat b.toNat := by
    show ((Ieee.double.read a.toNat).sum (Ieee.double.read (negI b).toNat)).map Ieee.double.write = ((Ieee.double.read a.toNat).sum (Ieee.double.read b.toNat).opposite).map Ieee.double.write
    cases hn : nanB b with
    | true =>
      have n1 : (Ieee.double.read (negI b).toNat).isNaN = true := by rw [nan_of _ (negI_range b h0 h1).1, negI_nan, hn]
      have n2 : (Ieee.double.read b.toNat).opposite.isNaN = true := by
        have : (Ieee.double.read b.toNat).isNaN = true := by rw [nan_of _ h0, hn]
        revert this
        cases Ieee.double.read b.toNat <;> simp [Datum.isNaN, Datum.opposite]
      rw [sum_nan _ _ n1, sum_nan _ _ n2]
    | false => rw [read_neg b h0 h1 hn]
  unfold opI; rw [e]
theorem neg_neg (a : Int) (h0 : 0 ≤ a) (h1 : a < 18446744073709551616) (hn : nanB a = false) : negI (negI a) = a := by
  rw [negI_plain (negI a) (by rw [negI_nan, hn]), negI_plain a hn]
  split <;> split <;> omega
/-- no NaN but one -/
theorem negI_canon (a : Int) : nanB (negI a) = true → negI a = 9221120237041090560 := by
  intro h; rw [negI_nan] at h; unfold negI; rw [if_pos h]
theorem floorI_nan (a : Int) (h0 : 0 ≤ a) : nanB (floorI a) = nanB a := by
  unfold floorI
  cases hn : nanB a with
  | true => rw [if_pos rfl]; decide
  | false =>
    simp only [Bool.false_eq_true, if_false]
    exact write_plain _ (by rw [integral_plain, nan_of a h0, hn])
theorem floorI_canon (a : Int) (h0 : 0 ≤ a) : nanB (floorI a) = true → floorI a = 9221120237041090560 := by
  intro h; rw [floorI_nan a h0] at h; unfold floorI; rw [if_pos h]
theorem fromI_nan (i : Int) : nanB (fromI i) = false := nearest_plain _ _ _
theorem wideI_canon (n : Int) : nanB (wideI n) = true → wideI n = 9221120237041090560 := by
  intro h; rw [wideI_nan] at h; unfold wideI; rw [if_pos h]
end Go.Proofs.YtdncdddaobemaaaGreatDoor.W.Nu
/- Plain facts on what package soft answers, by the exact numbers: whole numbers, floors, whole parts, sums, products and quotients that are exact. -/
namespace Go.Proofs.YtdncdddaobemaaaGreatDoor.W.Nu
open Ieee

/-- 1, in units of the least number's place -/
def one1 : Nat := bigOf 1074
theorem one1_pos : 0 < one1 := bigOf_pos 1074
theorem pow_one1 {k : Nat} (h : k = 1074) : 2 ^ k = one1 := by rw [one1, ← h]; rfl
/-- the exact number of a pattern -/
def keyI (a : Int) : Int := key (Ieee.double.read a.toNat)
/-- a finite double's pattern -/
def finB (a : Int) : Bool := decide (a % 9223372036854775808 < 9218868437227405312)

theorem fin_read (a : Int) (h : finB a = true) : ∃ s m p, Ieee.double.read a.toNat = .number s m p := by
  rw [read_eq]
  simp only [finB, decide_eq_true_eq] at h
  split
  · exact ⟨_, _, _, rfl⟩
  · rw [if_pos (by omega)]; exact ⟨_, _, _, rfl⟩
theorem fin_of_read (a : Int) (h0 : 0 ≤ a) {s : Bool} {m : Nat} {p : Int} (h : Ieee.double.read a.toNat = .number s m p) : finB a = true := by
  rw [read_eq] at h
  simp only [finB, decide_eq_true_eq]
  split at h
  · omega
  · split at h
    · omega
    · split at h <;> cases h
theorem fin_nan (a : Int) (h : finB a = true) : nanB a = false := by
  simp only [finB, decide_eq_true_eq] at h
  simp only [nanB, decide_eq_false_iff_not]
  omega

theorem order_keyI (a b : Int) (h0 : 0 ≤ a) (h0' : a < 18446744073709551616) (h1 : 0 ≤ b) (h1' : b < 18446744073709551616) (na : nanB a = false) (nb : nanB b = false) :
    Ieee.double.order a.toNat b.toNat = some (compare (keyI a) (keyI b)) :=
  order_key (by omega) (by omega) (by rw [nan_of a h0, na]) (by rw [nan_of b h1, nb])
theorem cmp_lt (x y : Int) : (some (compare x y) == some Ordering.lt) = decide (x < y) := by
  simp only [compare, compareOfLessAndEq]
  by_cases h : x < y
  · simp [h]
  · by_cases g : x = y <;> simp [h, g]
theorem cmp_eq (x y : Int) : (some (compare x y) == some Ordering.eq) = decide (x = y) := by
  simp only [compare, compareOfLessAndEq]
  by_cases h : x < y
  · simp [h]; omega
  · by_cases g : x = y <;> simp [g, h]
theorem cmp_gt (x y : Int) : (some (compare x y) == some Ordering.gt) = decide (y < x) := by
  simp only [compare, compareOfLessAndEq]
  by_cases h : x < y
  · simp [h]; omega
  · by_cases g : x = y
    · simp [g]
    · simp [g, h]; omega
theorem lessI_key (a b : Int) (h0 : 0 ≤ a) (h0' : a < 18446744073709551616) (h1 : 0 ≤ b) (h1' : b < 18446744073709551616) (na : nanB a = false) (nb : nanB b = false) : lessI a b = decide (keyI a < keyI b) := by unfold lessI; rw [order_keyI a b h0 h0' h1 h1' na nb, cmp_lt]
theorem equalI_key (a b : Int) (h0 : 0 ≤ a) (h0' : a < 18446744073709551616) (h1 : 0 ≤ b) (h1' : b < 18446744073709551616) (na : nanB a = false) (nb : nanB b = false) : equalI a b = decide (keyI a = keyI b) := by unfold equalI; rw [order_keyI a b h0 h0' h1 h1' na nb, cmp_eq]
theorem lessEqI_key (a b : Int) (h0 : 0 ≤ a) (h0' : a < 18446744073709551616) (h1 : 0 ≤ b) (h1' : b < 18446744073709551616) (na : nanB a = false) (nb : nanB b = false) : lessEqI a b = decide (keyI a ≤ keyI b) := by
  unfold lessEqI
  rw [order_keyI a b h0 h0' h1 h1' na nb, cmp_lt, cmp_eq, Bool.eq_iff_iff]
  simp; omega
theorem order_nan (a b : Int) (h0 : 0 ≤ a) (h1 : 0 ≤ b) (h : nanB a = true ∨ nanB b = true) : Ieee.double.order a.toNat b.toNat = none := by
  have e : (Ieee.double.read a.toNat).isNaN = true ∨ (Ieee.double.read b.toNat).isNaN = true := by rw [nan_of a h0, nan_of b h1]; exact h
  unfold Format.order
  cases ea : Ieee.double.read a.toNat <;> cases eb : Ieee.double.read b.toNat <;> rw [ea, eb] at e <;> simp [Datum.isNaN] at e <;> rfl
theorem less_nan (a b : Int) (h0 : 0 ≤ a) (h1 : 0 ≤ b) (h : nanB a = true ∨ nanB b = true) : lessI a b = false ∧ equalI a b = false ∧ lessEqI a b = false := by
  unfold lessI equalI lessEqI
  rw [order_nan a b h0 h1 h]
  exact ⟨rfl, rfl, rfl⟩

/-! ### whole numbers -/
/-- the double nearest to a whole number of at most 53 digits is that number -/
theorem nearest_key (s : Bool) (n : Nat) (hn : n ≤ 9007199254740992) :
    ∃ m p, Ieee.double.read (Ieee.double.nearest s n 0) = .number s m p ∧ -1074 ≤ p ∧ p ≤ 1 ∧ m * 2 ^ (p + 1074).toNat = n * one1 := by
  by_cases h : n < 9007199254740992
  · obtain ⟨m, p, e, q1, q2, q3⟩ := read_nearest s n 0 h (by omega) (by omega)
    refine ⟨m, p, e, q1, by omega, ?_⟩
    rw [q3, Nat.mul_assoc, ← Nat.pow_add, pow_one1 (by omega)]
  · have e0 : n = 4503599627370496 * 2 ^ 1 := by omega
    have e1 : Ieee.double.nearest s n 0 = Ieee.double.nearest s 4503599627370496 1 := by
      rw [e0]; exact nearest_shift Ieee.double s 4503599627370496 1 1
    obtain ⟨m, p, e, q1, q2, q3⟩ := read_nearest s 4503599627370496 1 (by omega) (by omega) (by omega)
    rw [e1]
    refine ⟨m, p, e, q1, by omega, ?_⟩
    have e2 : 2 ^ ((1 - p).toNat + (p + 1074).toNat) = 2 ^ 1 * one1 := by
      rw [← pow_one1 (k := (1 - p).toNat + (p + 1074).toNat - 1) (by omega), ← Nat.pow_add]
      congr 1; omega
    rw [q3, e0, Nat.mul_assoc, Nat.mul_assoc, ← Nat.pow_add, e2]
theorem sgn_mul (i : Int) (s : Bool) (hs : i ≠ 0 → s = decide (i < 0)) : (if s then -1 else 1) * (i.natAbs : Int) = i := by
  by_cases h : i = 0
  · subst h; cases s <;> rfl
  · rw [hs h]
    by_cases g : i < 0
    · simp [g]; omega
    · simp [g]; omega
theorem fromI_key (i : Int) (hi : i.natAbs ≤ 9007199254740992) : finB (fromI i) = true ∧ keyI (fromI i) = i * one1 := by
  obtain ⟨m, p, e, q1, q2, q3⟩ := nearest_key (decide (i < 0)) i.natAbs hi
  have e' : Ieee.double.read (fromI i).toNat = .number (decide (i < 0)) m p := e
  refine ⟨fin_of_read _ (fromI_range i).1 e', ?_⟩
  unfold keyI
  rw [e', key, signed_eq, q3, Int.natCast_mul, ← Int.mul_assoc, sgn_mul i _ (fun _ => rfl)]

/-- where a quotient by one lies -/
theorem quo_unique (q t : Int) (k : Int) (h1 : q * one1 ≤ k) (h2 : k < q * one1 + one1) (h3 : t * one1 ≤ k) (h4 : k < t * one1 + one1) : q = t := by
  have p : (0 : Int) < one1 := by have := one1_pos; omega
  have a : q < t + 1 := Int.lt_of_mul_lt_mul_right (a := (one1 : Int)) (by rw [Int.add_mul]; omega) (by omega)
  have b : t < q + 1 := Int.lt_of_mul_lt_mul_right (a := (one1 : Int)) (by rw [Int.add_mul]; omega) (by omega)
  omega
end Go.Proofs.YtdncdddaobemaaaGreatDoor.W.Nu
/- Plain facts on what package soft answers, by the exact numbers: whole parts, floors, sums, differences, products and quotients that are exact. -/
namespace Go.Proofs.YtdncdddaobemaaaGreatDoor.W.Nu
open Ieee

theorem quo_scale (n g c : Nat) (hg : 0 < g) (hc : 0 < c) : n / g * (g * c) ≤ n * c ∧ n * c < n / g * (g * c) + g * c := by
  have h1 := Nat.div_add_mod n g
  have h2 := Nat.mod_lt n hg
  have e : n * c = n / g * (g * c) + n % g * c := by
    have : n = n / g * g + n % g := by rw [Nat.mul_comm]; omega
    conv => lhs; rw [this]
    rw [Nat.add_mul, Nat.mul_assoc]
  have h3 : n % g * c < g * c := Nat.mul_lt_mul_of_pos_right h2 hc
  omega
theorem up_scale (n g c : Nat) (hg : 0 < g) (hc : 0 < c) : n * c ≤ (n / g + if n % g ≠ 0 then 1 else 0) * (g * c) ∧ (n / g + if n % g ≠ 0 then 1 else 0) * (g * c) < n * c + g * c := by
  have h1 := Nat.div_add_mod n g
  have h2 := Nat.mod_lt n hg
  have e : n * c = n / g * (g * c) + n % g * c := by
    have : n = n / g * g + n % g := by rw [Nat.mul_comm]; omega
    conv => lhs; rw [this]
    rw [Nat.add_mul, Nat.mul_assoc]
  have h3 : n % g * c < g * c := Nat.mul_lt_mul_of_pos_right h2 hc
  have h4 : 0 < g * c := Nat.mul_pos hg hc
  by_cases h : n % g = 0
  · rw [if_neg (by omega), Nat.add_zero]
    rw [h, Nat.zero_mul] at e
    omega
  · rw [if_pos h, Nat.add_mul, Nat.one_mul]
    have h5 : 0 < n % g * c := Nat.mul_pos (by omega) hc
    omega

/-- a double's whole part -/
def truncI (a : Int) : Int := match Ieee.double.read a.toNat with | .number s m p => signed s (m * 2 ^ p.toNat / 2 ^ (-p).toNat) 0 | _ => 0
theorem signed_v (s : Bool) (m k : Nat) : signed s m k = if s then -((m * 2 ^ k : Nat) : Int) else ((m * 2 ^ k : Nat) : Int) := by
  unfold signed; rw [Nat.shiftLeft_eq]
theorem trunc_some (a : Int) (h : finB a = true) : (Ieee.double.read a.toNat).toInt .zero = some (truncI a) := by
  obtain ⟨s, m, p, e⟩ := fin_read a h
  unfold truncI
  rw [e]
  show some (signed s (Toward.zero.cut s (m <<< p.toNat) (-p).toNat) 0) = _
  rw [cut_zero, Nat.shiftLeft_eq]
/-- a number's parts, scaled to the least number's place -/
theorem scale_eq (m : Nat) (p : Int) (h1 : -1074 ≤ p) : m * 2 ^ (p + 1074).toNat = m * 2 ^ p.toNat * 2 ^ (1074 - (-p).toNat) ∧ one1 = 2 ^ (-p).toNat * 2 ^ (1074 - (-p).toNat) := by
  constructor
  · rw [Nat.mul_assoc, ← Nat.pow_add]; congr 2; omega
  · rw [← Nat.pow_add, pow_one1 (by omega)]
theorem trunc_key (a : Int) (h0' : a < 18446744073709551616) (h : finB a = true) :
    (0 ≤ keyI a → truncI a * one1 ≤ keyI a ∧ keyI a < truncI a * one1 + one1) ∧ (keyI a ≤ 0 → keyI a ≤ truncI a * one1 ∧ truncI a * one1 - one1 < keyI a) := by
  obtain ⟨s, m, p, e⟩ := fin_read a h
  obtain ⟨q1, q2, q3, q4, q5⟩ := read_number (by omega) e
  obtain ⟨e1, e2⟩ := scale_eq m p q2
  have hs := quo_scale (m * 2 ^ p.toNat) (2 ^ (-p).toNat) (2 ^ (1074 - (-p).toNat)) (Nat.two_pow_pos _) (Nat.two_pow_pos _)
  unfold keyI truncI
  rw [e]
  simp only [key, signed_v, Nat.pow_zero, Nat.mul_one]
  rw [← e2, ← e1] at hs
  have hp := one1_pos
  generalize m * 2 ^ p.toNat / 2 ^ (-p).toNat = T at *
  generalize m * 2 ^ (p + 1074).toNat = V at *
  obtain ⟨g1, g2⟩ := hs
  have g1' : (T : Int) * one1 ≤ V := by exact_mod_cast g1
  have g2' : (V : Int) < (T : Int) * one1 + one1 := by exact_mod_cast g2
  cases s
  · simp only [Bool.false_eq_true, if_false]; omega
  · simp only [if_true, Int.neg_mul]; omega

theorem key_top : keyI 4890909195324358656 = 9223372036854775808 * one1 := by
  have e : Ieee.double.read (4890909195324358656 : Int).toNat = .number false 4503599627370496 11 := by decide +kernel
  unfold keyI
  rw [e]
  simp only [key, signed_v, Bool.false_eq_true, if_false]
  have e2 : 2 ^ ((11 : Int) + 1074).toNat = 2 ^ 11 * one1 := by rw [← pow_one1 (k := ((11 : Int) + 1074).toNat - 11) (by decide), ← Nat.pow_add]; congr 1
  rw [e2]; omega
theorem key_bot : keyI 14114281232179134464 = -9223372036854775808 * one1 := by
  have e : Ieee.double.read (14114281232179134464 : Int).toNat = .number true 4503599627370496 11 := by decide +kernel
  unfold keyI
  rw [e]
  simp only [key, signed_v, if_true]
  have e2 : 2 ^ ((11 : Int) + 1074).toNat = 2 ^ 11 * one1 := by rw [← pow_one1 (k := ((11 : Int) + 1074).toNat - 11) (by decide), ← Nat.pow_add]; congr 1
  rw [e2]; omega
theorem fits_key (a : Int) (h0 : 0 ≤ a) (h0' : a < 18446744073709551616) (na : nanB a = false) :
    fitsB a = decide (-9223372036854775808 * one1 ≤ keyI a ∧ keyI a < 9223372036854775808 * one1) := by
  have o1 := order_keyI a 14114281232179134464 h0 h0' (by decide) (by decide) na (by decide)
  have o2 := order_keyI a 4890909195324358656 h0 h0' (by decide) (by decide) na (by decide)
  unfold fitsB
  rw [show (14114281232179134464 : Nat) = (14114281232179134464 : Int).toNat from rfl, show (4890909195324358656 : Nat) = (4890909195324358656 : Int).toNat from rfl, o1, o2, cmp_gt, cmp_eq, cmp_lt, key_top, key_bot, Bool.eq_iff_iff]
  simp
  omega
theorem trunc_val (a : Int) (h0' : a < 18446744073709551616) (h : finB a = true) (h1 : -9223372036854775808 * (one1 : Int) ≤ keyI a) (h2 : keyI a < 9223372036854775808 * one1) :
    floatToIntVal .f64 a.toNat .i64 = some (truncI a) := by
  have hr : -9223372036854775808 ≤ truncI a ∧ truncI a ≤ 9223372036854775807 := by
    obtain ⟨k1, k2⟩ := trunc_key a h0' h
    have p : (0 : Int) < one1 := by have := one1_pos; omega
    by_cases g : 0 ≤ keyI a
    · obtain ⟨g1, g2⟩ := k1 g
      have b1 : truncI a < 9223372036854775808 := Int.lt_of_mul_lt_mul_right (a := (one1 : Int)) (by omega) (by omega)
      have b2 : -1 < truncI a := Int.lt_of_mul_lt_mul_right (a := (one1 : Int)) (by omega) (by omega)
      omega
    · obtain ⟨g1, g2⟩ := k2 (by omega)
      have b1 : truncI a < 1 := Int.lt_of_mul_lt_mul_right (a := (one1 : Int)) (by omega) (by omega)
      have b2 : -9223372036854775809 < truncI a := Int.lt_of_mul_lt_mul_right (a := (one1 : Int)) (by omega) (by omega)
      omega
  unfold floatToIntVal
  have e : (FloatKind.f64.decode a.toNat).toInt .zero = some (truncI a) := trunc_some a h
  rw [e]
  exact if_pos hr

/-! ### floors -/
theorem floor_read (a : Int) (h0 : 0 ≤ a) (h0' : a < 18446744073709551616) (h : finB a = true) {s : Bool} {m : Nat} {p : Int} (e : Ieee.double.read a.toNat = .number s m p) :
    floorI a = (Ieee.double.nearest s (m * 2 ^ p.toNat / 2 ^ (-p).toNat + if s = true ∧ m * 2 ^ p.toNat % 2 ^ (-p).toNat ≠ 0 then 1 else 0) 0 : Nat) ∧ (0 ≤ p → floorI a = a) := by
  have e1 : floorI a = (Ieee.double.nearest s (m * 2 ^ p.toNat / 2 ^ (-p).toNat + if s = true ∧ m * 2 ^ p.toNat % 2 ^ (-p).toNat ≠ 0 then 1 else 0) 0 : Nat) := by
    unfold floorI
    rw [if_neg (by rw [fin_nan a h]; decide), e]
    show ((Ieee.double.nearest s (Toward.down.cut s (m <<< p.toNat) (-p).toNat) 0 : Nat) : Int) = _
    rw [cut_down, Nat.shiftLeft_eq]
  refine ⟨e1, fun hp => ?_⟩
  rw [e1]
  have e2 : (-p).toNat = 0 := by omega
  rw [e2, Nat.pow_zero, Nat.div_one, Nat.mod_one, if_neg (by simp), Nat.add_zero]
  have e3 : Ieee.double.nearest s (m * 2 ^ p.toNat) 0 = Ieee.double.nearest s m p := nearest_same Ieee.double s _ m 0 p 0 (by omega) (by omega) (by simp)
  rw [e3, write_read (by omega) e]
  omega
theorem floor_key (a : Int) (h0 : 0 ≤ a) (h0' : a < 18446744073709551616) (h : finB a = true) :
    finB (floorI a) = true ∧ floorI (floorI a) = floorI a ∧ ∃ q : Int, keyI (floorI a) = q * one1 ∧ q * one1 ≤ keyI a ∧ keyI a < q * one1 + one1 := by
  obtain ⟨s, m, p, e⟩ := fin_read a h
  obtain ⟨q1, q2, q3, q4, q5⟩ := read_number (by omega) e
  obtain ⟨f1, f2⟩ := floor_read a h0 h0' h e
  have hp1 := one1_pos
  by_cases hp : 0 ≤ p
  · rw [f2 hp]
    refine ⟨h, f2 hp, (if s then -1 else 1) * ((m * 2 ^ p.toNat : Nat) : Int), ?_⟩
    have e2 : keyI a = (if s then -1 else 1) * ((m * 2 ^ p.toNat : Nat) : Int) * one1 := by
      unfold keyI
      rw [e, key, signed_eq, Int.mul_assoc, ← Int.natCast_mul, Nat.mul_assoc, ← pow_one1 (k := (p + 1074).toNat - p.toNat) (by omega), ← Nat.pow_add]
      congr 5; omega
    refine ⟨e2, by omega, by omega⟩
  · -- the number of whole units
    have hg : 2 ≤ 2 ^ (-p).toNat := by
      have : 2 ^ 1 ≤ 2 ^ (-p).toNat := Nat.pow_le_pow_right (by omega) (by omega)
      omega
    have e0 : p.toNat = 0 := by omega
    rw [e0, Nat.pow_zero, Nat.mul_one] at f1
    obtain ⟨e1, e2⟩ := scale_eq m p q2
    rw [e0, Nat.pow_zero, Nat.mul_one] at e1
    have hd := quo_scale m (2 ^ (-p).toNat) (2 ^ (1074 - (-p).toNat)) (Nat.two_pow_pos _) (Nat.two_pow_pos _)
    have hu := up_scale m (2 ^ (-p).toNat) (2 ^ (1074 - (-p).toNat)) (Nat.two_pow_pos _) (Nat.two_pow_pos _)
    rw [← e2, ← e1] at hd hu
    have hm2 : m / 2 ^ (-p).toNat ≤ m / 2 := Nat.div_le_div_left hg (by omega)
    generalize hc : m / 2 ^ (-p).toNat + (if s = true ∧ m % 2 ^ (-p).toNat ≠ 0 then 1 else 0) = c at *
    have hc2 : c < 9007199254740992 := by
      rw [← hc]; split <;> omega
    obtain ⟨m', p', r, r1, r2, r3⟩ := read_nearest s c 0 hc2 (by omega) (by omega)
    have r' : Ieee.double.read (floorI a).toNat = .number s m' p' := by rw [f1]; exact r
    have hf : finB (floorI a) = true := fin_of_read _ (floorI_range a).1 r'
    refine ⟨hf, ?_, (if s then -1 else 1) * (c : Int), ?_⟩
    · have hff := (floor_read (floorI a) (floorI_range a).1 (floorI_range a).2 hf r').1
      rw [hff, f1, show p'.toNat = 0 from by omega, Nat.pow_zero, Nat.mul_one, r3, show (0 - p').toNat = (-p').toNat from by omega, Nat.mul_div_cancel _ (Nat.two_pow_pos _), Nat.mul_mod_left, if_neg (by simp), Nat.add_zero]
    · have k1 : keyI (floorI a) = (if s then -1 else 1) * (c : Int) * one1 := by
        unfold keyI
        rw [r', key, signed_eq, r3, Nat.mul_assoc, ← Nat.pow_add, pow_one1 (by omega), Int.mul_assoc, ← Int.natCast_mul]
      refine ⟨k1, ?_⟩
      unfold keyI
      rw [e]
      simp only [key, signed_v]
      generalize m * 2 ^ (p + 1074).toNat = V at *
      obtain ⟨d1, d2⟩ := hd
      obtain ⟨u1, u2⟩ := hu
      cases s
      · have hcc : m / 2 ^ (-p).toNat = c := by rw [← hc]; simp
        rw [hcc] at d1 d2
        have d1' : (c : Int) * one1 ≤ V := by exact_mod_cast d1
        have d2' : (V : Int) < (c : Int) * one1 + one1 := by exact_mod_cast d2
        simp only [Bool.false_eq_true, if_false, Int.one_mul]
        omega
      · have hcc : (m / 2 ^ (-p).toNat + if m % 2 ^ (-p).toNat ≠ 0 then 1 else 0) = c := by rw [← hc]; simp
        rw [hcc] at u1 u2
        have u1' : (V : Int) ≤ (c : Int) * one1 := by exact_mod_cast u1
        have u2' : (c : Int) * one1 < (V : Int) + one1 := by exact_mod_cast u2
        simp only [if_true, Int.neg_mul, Int.one_mul]
        omega
theorem floor_inf (a : Int) (h0 : 0 ≤ a) (h0' : a < 18446744073709551616) (hn : nanB a = false) (hf : finB a = false) : floorI a = a := by
  have e : ∃ s, Ieee.double.read a.toNat = .infinity s := by
    cases e : Ieee.double.read a.toNat with
    | infinity s => exact ⟨s, rfl⟩
    | number s m p => rw [fin_of_read a h0 e] at hf; cases hf
    | nan s t => have := nan_of a h0; rw [e, hn] at this; cases this
  obtain ⟨s, e⟩ := e
  unfold floorI
  rw [if_neg (by rw [hn]; decide), e]
  show ((Ieee.double.write (.infinity s) : Nat) : Int) = a
  rw [write_inf (by omega) e]
  omega
end Go.Proofs.YtdncdddaobemaaaGreatDoor.W.Nu
/- Plain facts on what package soft answers, by the exact numbers: sums, products and quotients of whole numbers; by one, by itself. -/
namespace Go.Proofs.YtdncdddaobemaaaGreatDoor.W.Nu
open Ieee

theorem one1_sq {k : Nat} (h : k = 2148) : 2 ^ k = one1 * one1 := by
  have e : k - 1074 + (k - 1074) = k := by omega
  rw [← pow_one1 (k := k - 1074) (by omega), ← Nat.pow_add, e]
theorem one1_int : (0 : Int) < one1 := by have := one1_pos; omega
/-- a number that is whole, cut to its whole part -/
theorem trunc_whole (x k : Int) (r1 : 0 ≤ x) (r2 : x < 18446744073709551616) (hf : finB x = true) (hk : keyI x = k * one1) (h1 : -9223372036854775808 ≤ k) (h2 : k < 9223372036854775808) :
    floatToIntVal .f64 x.toNat .i64 = some k ∧ fitsB x = true := by
  have p := one1_int
  have b1 : -9223372036854775808 * (one1 : Int) ≤ keyI x := by rw [hk]; exact Int.mul_le_mul_of_nonneg_right h1 (by omega)
  have b2 : keyI x < 9223372036854775808 * one1 := by rw [hk]; exact Int.mul_lt_mul_of_pos_right (by omega) p
  have hv := trunc_val x r2 hf b1 b2
  have ht : truncI x = k := by
    obtain ⟨t1, t2⟩ := trunc_key x r2 hf
    rw [hk] at t1 t2
    by_cases g : 0 ≤ k
    · obtain ⟨u1, u2⟩ := t1 (Int.mul_nonneg g (by omega))
      exact quo_unique _ _ _ u1 u2 (Int.le_refl _) (by omega)
    · obtain ⟨u1, u2⟩ := t2 (Int.mul_nonpos_of_nonpos_of_nonneg (by omega) (by omega))
      exact (quo_unique k _ _ u1 (by omega) (Int.le_refl _) (by omega)).symm
  rw [ht] at hv
  refine ⟨hv, ?_⟩
  rw [fits_key x r1 r2 (fin_nan x hf)]
  simp only [decide_eq_true_eq]
  exact ⟨b1, b2⟩

theorem key_opposite (d : Datum) : key d.opposite = -key d := by
  cases d with
  | number s m p => simp only [Datum.opposite, key, signed_v]; cases s <;> simp
  | infinity s => simp only [Datum.opposite, key]; cases s <;> simp
  | nan s t => rfl
theorem keyI_neg (b : Int) (h0 : 0 ≤ b) (h1 : b < 18446744073709551616) (hn : nanB b = false) : keyI (negI b) = -keyI b := by
  unfold keyI; rw [read_neg b h0 h1 hn, key_opposite]
theorem finB_neg (b : Int) (hf : finB b = true) : finB (negI b) = true := by
  rw [negI_plain b (fin_nan b hf)]
  simp only [finB, decide_eq_true_eq] at *
  split <;> omega

/-- what nearest writes of a whole number, by its exact number -/
theorem near_key (s : Bool) (m : Nat) (p : Int) (i : Int) (h1 : -2148 ≤ p) (hi : i.natAbs ≤ 9007199254740992) (hv : m * 2 ^ (p + 2148).toNat = i.natAbs * (one1 * one1)) (hs : i ≠ 0 → s = decide (i < 0)) :
    finB (Ieee.double.nearest s m p : Nat) = true ∧ keyI (Ieee.double.nearest s m p : Nat) = i * one1 := by
  have e1 : Ieee.double.nearest s m p = Ieee.double.nearest s i.natAbs 0 := by
    refine nearest_same Ieee.double s m i.natAbs p 0 (-2148) h1 (by omega) ?_
    rw [show p - -2148 = p + 2148 from by omega, hv, one1_sq (by decide)]
  obtain ⟨m', p', e, q1, q2, q3⟩ := nearest_key s i.natAbs hi
  rw [e1]
  have e' : Ieee.double.read ((Ieee.double.nearest s i.natAbs 0 : Nat) : Int).toNat = .number s m' p' := e
  refine ⟨fin_of_read _ (by omega) e', ?_⟩
  unfold keyI
  rw [e', key, signed_eq, q3, Int.natCast_mul, ← Int.mul_assoc, sgn_mul i s hs]
theorem sign_key {s : Bool} {V : Nat} {i : Int} (h : (if s then -(V : Int) else (V : Int)) = i * one1) (hi : i ≠ 0) : s = decide (i < 0) := by
  have p := one1_int
  by_cases g : i < 0
  · have : i * (one1 : Int) < 0 := Int.mul_neg_of_neg_of_pos g p
    cases s
    · simp at h; omega
    · simp [g]
  · have : 0 < i * (one1 : Int) := Int.mul_pos (by omega) p
    cases s
    · simp [g]
    · simp at h; omega
theorem abs_key {s : Bool} {V : Nat} {i : Int} (h : (if s then -(V : Int) else (V : Int)) = i * one1) : V = i.natAbs * one1 := by
  have e : (i * (one1 : Int)).natAbs = i.natAbs * one1 := by rw [Int.natAbs_mul, Int.natAbs_natCast]
  rw [← e, ← h]
  cases s <;> simp

theorem add_exact (a b i : Int) (a1 : a < 18446744073709551616) (b1 : b < 18446744073709551616) (fa : finB a = true) (fb : finB b = true)
    (h : keyI a + keyI b = i * one1) (hi : i.natAbs ≤ 9007199254740992) : finB (opI .add a b) = true ∧ keyI (opI .add a b) = i * one1 := by
  obtain ⟨s, m, p, ea⟩ := fin_read a fa
  obtain ⟨t, n, q, eb⟩ := fin_read b fb
  obtain ⟨-, hp, -, -, -⟩ := read_number (by omega) ea
  obtain ⟨-, hq, -, -, -⟩ := read_number (by omega) eb
  have P := one1_int
  unfold keyI at h
  rw [ea, eb] at h
  simp only [key] at h
  have e1 : (p + 1074).toNat = (p - min p q).toNat + (min p q + 1074).toNat := by omega
  have e2 : (q + 1074).toNat = (q - min p q).toNat + (min p q + 1074).toNat := by omega
  rw [e1, e2, signed_add, signed_add, ← Int.add_mul] at h
  have e3 : opI .add a b = (Ieee.double.nearest (if signed s m (p - min p q).toNat + signed t n (q - min p q).toNat = 0 then s && t else decide (signed s m (p - min p q).toNat + signed t n (q - min p q).toNat < 0)) (signed s m (p - min p q).toNat + signed t n (q - min p q).toNat).natAbs (min p q) : Nat) := by
    unfold opI
    have : floatBits .add .f64 a.toNat b.toNat = ((Ieee.double.read a.toNat).sum (Ieee.double.read b.toNat)).map Ieee.double.write := rfl
    rw [this, ea, eb]
    rfl
  rw [e3]
  generalize signed s m (p - min p q).toNat + signed t n (q - min p q).toNat = T at *
  have hB : (0 : Int) < ((2 ^ (min p q + 1074).toNat : Nat) : Int) := by have := Nat.two_pow_pos (min p q + 1074).toNat; omega
  refine near_key _ _ _ i (by omega) hi ?_ ?_
  · have e4 : T.natAbs * 2 ^ (min p q + 1074).toNat = i.natAbs * one1 := by
      have := congrArg Int.natAbs h
      rw [Int.natAbs_mul, Int.natAbs_mul, Int.natAbs_natCast, Int.natAbs_natCast] at this
      exact this
    have e5 : 2 ^ (min p q + 2148).toNat = 2 ^ (min p q + 1074).toNat * one1 := by
      rw [← pow_one1 (k := (min p q + 2148).toNat - (min p q + 1074).toNat) (by omega), ← Nat.pow_add]; congr 1; omega
    rw [e5, ← Nat.mul_assoc, e4, Nat.mul_assoc]
  · intro hi0
    have hT : T ≠ 0 := by
      intro hT
      rw [hT, Int.zero_mul] at h
      rcases Int.mul_eq_zero.1 h.symm with g | g <;> omega
    rw [if_neg hT]
    congr 1
    apply propext
    constructor
    · intro g
      have := Int.mul_neg_of_neg_of_pos g hB
      rw [h] at this
      exact Int.not_le.1 (fun g' => by have := Int.mul_nonneg g' (Int.le_of_lt P); omega)
    · intro g
      have := Int.mul_neg_of_neg_of_pos g P
      rw [← h] at this
      exact Int.not_le.1 (fun g' => by have := Int.mul_nonneg g' (Int.le_of_lt hB); omega)

theorem mul_exact (a b i j : Int) (a1 : a < 18446744073709551616) (b1 : b < 18446744073709551616) (fa : finB a = true) (fb : finB b = true)
    (ha : keyI a = i * one1) (hb : keyI b = j * one1) (hi : (i * j).natAbs ≤ 9007199254740992) : finB (opI .mul a b) = true ∧ keyI (opI .mul a b) = i * j * one1 := by
  obtain ⟨s, m, p, ea⟩ := fin_read a fa
  obtain ⟨t, n, q, eb⟩ := fin_read b fb
  obtain ⟨-, hp, -, -, -⟩ := read_number (by omega) ea
  obtain ⟨-, hq, -, -, -⟩ := read_number (by omega) eb
  unfold keyI at ha hb
  rw [ea] at ha
  rw [eb] at hb
  simp only [key, signed_v] at ha hb
  have e3 : opI .mul a b = (Ieee.double.nearest (s ^^ t) (m * n) (p + q) : Nat) := by
    unfold opI
    have : floatBits .mul .f64 a.toNat b.toNat = ((Ieee.double.read a.toNat).product (Ieee.double.read b.toNat)).map Ieee.double.write := rfl
    rw [this, ea, eb]
    rfl
  rw [e3]
  refine near_key _ _ _ (i * j) (by omega) hi ?_ ?_
  · have e5 : 2 ^ (p + q + 2148).toNat = 2 ^ (p + 1074).toNat * 2 ^ (q + 1074).toNat := by rw [← Nat.pow_add]; congr 1; omega
    rw [e5, Int.natAbs_mul]
    have v1 := abs_key ha
    have v2 := abs_key hb
    rw [Nat.mul_mul_mul_comm, v1, v2, Nat.mul_mul_mul_comm]
  · intro hij
    have i0 : i ≠ 0 := fun h => hij (by rw [h, Int.zero_mul])
    have j0 : j ≠ 0 := fun h => hij (by rw [h, Int.mul_zero])
    rw [sign_key ha i0, sign_key hb j0]
    by_cases g1 : i < 0 <;> by_cases g2 : j < 0
    · have : 0 < i * j := Int.mul_pos_of_neg_of_neg g1 g2
      have h3 : ¬ i * j < 0 := by omega
      simp [g1, g2, h3]
    · have : i * j < 0 := Int.mul_neg_of_neg_of_pos g1 (by omega)
      simp [g1, g2, this]
    · have : i * j < 0 := Int.mul_neg_of_pos_of_neg (by omega) g2
      simp [g1, g2, this]
    · have : 0 < i * j := Int.mul_pos (by omega) (by omega)
      have h3 : ¬ i * j < 0 := by omega
      simp [g1, g2, h3]
end Go.Proofs.YtdncdddaobemaaaGreatDoor.W.Nu
/- Plain facts on what package soft answers, by the exact numbers: quotients of whole numbers; by one, by itself, to nought. -/
namespace Go.Proofs.YtdncdddaobemaaaGreatDoor.W.Nu
open Ieee

theorem log_key {m V : Nat} {p : Int} (h1 : -1074 ≤ p) (hV : V ≠ 0) (h : m * 2 ^ (p + 1074).toNat = V * one1) : m ≠ 0 ∧ (m.log2 : Int) + p = V.log2 := by
  have hp := one1_pos
  have hm : m ≠ 0 := by
    intro g
    rw [g, Nat.zero_mul] at h
    rcases Nat.mul_eq_zero.1 h.symm with g' | g' <;> omega
  refine ⟨hm, ?_⟩
  obtain ⟨K, hK⟩ : ∃ K, K = 1074 := ⟨1074, rfl⟩
  have e := congrArg Nat.log2 h
  rw [← pow_one1 hK, log2_shift m _ hm, log2_shift V K hV] at e
  omega
theorem quo_nearest (a b : Int) {s t : Bool} {m n : Nat} {p q : Int} (ea : Ieee.double.read a.toNat = .number s m p) (eb : Ieee.double.read b.toNat = .number t n q) (hn : n ≠ 0) :
    opI .quo a b = (Ieee.double.nearest (s ^^ t) (2 * (m * 2 ^ (54 + n.log2 - m.log2) / n) + (m * 2 ^ (54 + n.log2 - m.log2) % n != 0).toNat) (p - q - (54 + n.log2 - m.log2 : Nat) - 1) : Nat) := by
  unfold opI
  have : floatBits .quo .f64 a.toNat b.toNat = ((Ieee.double.read a.toNat).quotient 54 (Ieee.double.read b.toNat)).map Ieee.double.write := rfl
  rw [this, ea, eb]
  simp only [Datum.quotient, if_neg hn, Nat.shiftLeft_eq]
  rfl
theorem arr (i n x y e f : Nat) (h : x * y = e * f) : i * (n * y) * x = i * e * n * f := by
  have h1 : i * (n * y) * x = i * n * (x * y) := by ac_rfl
  rw [h1, h]
  ac_rfl
theorem div_exact (a b i j : Int) (a1 : a < 18446744073709551616) (b1 : b < 18446744073709551616) (fa : finB a = true) (fb : finB b = true)
    (ha : keyI a = i * j * one1) (hb : keyI b = j * one1) (hj : j ≠ 0) (hij : (i * j).natAbs < 9007199254740992) (hi : i.natAbs ≤ 9007199254740992) :
    finB (opI .quo a b) = true ∧ keyI (opI .quo a b) = i * one1 := by
  obtain ⟨s, m, p, ea⟩ := fin_read a fa
  obtain ⟨t, n, q, eb⟩ := fin_read b fb
  obtain ⟨m1, hp, -, -, -⟩ := read_number (by omega) ea
  obtain ⟨n1, hq, -, -, -⟩ := read_number (by omega) eb
  unfold keyI at ha hb
  rw [ea] at ha
  rw [eb] at hb
  simp only [key, signed_v] at ha hb
  have va := abs_key ha
  have vb := abs_key hb
  obtain ⟨hn, ln⟩ := log_key hq (by omega) vb
  rw [quo_nearest a b ea eb hn]
  by_cases i0 : i = 0
  · have hm : m = 0 := by
      rw [i0, Int.zero_mul, Int.natAbs_zero, Nat.zero_mul] at va
      rcases Nat.mul_eq_zero.1 va with g | g
      · exact g
      · have := Nat.two_pow_pos (p + 1074).toNat
        omega
    subst hm
    have e0 : Ieee.double.nearest (s ^^ t) (2 * (0 * 2 ^ (54 + n.log2 - (0 : Nat).log2) / n) + (0 * 2 ^ (54 + n.log2 - (0 : Nat).log2) % n != 0).toNat) (p - q - (54 + n.log2 - (0 : Nat).log2 : Nat) - 1) = Ieee.double.nearest (s ^^ t) 0 0 := by
      unfold Format.nearest
      simp
    rw [e0, i0]
    exact near_key (s ^^ t) 0 0 0 (by omega) (by decide) (by rw [Int.natAbs_zero, Nat.zero_mul, Nat.zero_mul]) (fun h => absurd rfl h)
  · have hij0 : i * j ≠ 0 := Int.mul_ne_zero i0 hj
    obtain ⟨hm, lm⟩ := log_key hp (by omega) va
    have lm2 : m.log2 ≤ 52 := by
      have : m.log2 < 53 := (Nat.log2_lt hm).2 (by omega)
      omega
    have ln2 : n.log2 ≤ 52 := by
      have : n.log2 < 53 := (Nat.log2_lt hn).2 (by omega)
      omega
    have lij : (i * j).natAbs.log2 < 53 := (Nat.log2_lt (by omega)).2 (by omega)
    have lj : j.natAbs.log2 < 53 := by
      refine (Nat.log2_lt (by omega)).2 ?_
      rw [Int.natAbs_mul] at hij
      have : 1 * j.natAbs ≤ i.natAbs * j.natAbs := Nat.mul_le_mul_right _ (by omega)
      omega
    generalize hM : 54 + n.log2 - m.log2 = M
    -- the dividend is the divisor times the answer's digits
    have hE : (0 : Int) ≤ M + q - p := by omega
    have key1 : m * 2 ^ M = i.natAbs * 2 ^ (M + q - p).toNat * n := by
      have c1 : m * 2 ^ (p + 1074).toNat = i.natAbs * (n * 2 ^ (q + 1074).toNat) := by
        rw [va, vb, Int.natAbs_mul, Nat.mul_assoc]
      refine Nat.eq_of_mul_eq_mul_right (Nat.two_pow_pos (p + 1074).toNat) ?_
      have x1 : 2 ^ M * 2 ^ (q + 1074).toNat = 2 ^ (M + q - p).toNat * 2 ^ (p + 1074).toNat := by
        rw [← Nat.pow_add, ← Nat.pow_add]
        exact congrArg (2 ^ ·) (by omega)
      rw [Nat.mul_right_comm, c1]
      exact arr _ _ _ _ _ _ x1
    rw [key1, Nat.mul_div_cancel _ (by omega), Nat.mul_mod_left]
    refine near_key _ _ _ i (by omega) hi ?_ ?_
    · simp only [bne_self_eq_false, Bool.toNat_false, Nat.add_zero]
      have x2 : 2 * (i.natAbs * 2 ^ (M + q - p).toNat) * 2 ^ (p - q - (M : Nat) - 1 + 2148).toNat = i.natAbs * 2 ^ (1 + (M + q - p).toNat + (p - q - (M : Nat) - 1 + 2148).toNat) := by
        rw [Nat.pow_add, Nat.pow_add, Nat.pow_one]
        generalize 2 ^ (M + q - p).toNat = x
        generalize 2 ^ (p - q - (M : Nat) - 1 + 2148).toNat = y
        rw [← Nat.mul_assoc, Nat.mul_comm 2, ← Nat.mul_assoc, ← Nat.mul_assoc]
      rw [x2, one1_sq (by omega)]
    · intro _
      rw [sign_key ha hij0, sign_key hb hj]
      by_cases g1 : i < 0 <;> by_cases g2 : j < 0
      · have : 0 < i * j := Int.mul_pos_of_neg_of_neg g1 g2
        have h3 : ¬ i * j < 0 := by omega
        simp [g1, g2, h3]
      · have : i * j < 0 := Int.mul_neg_of_neg_of_pos g1 (by omega)
        simp [g1, g2, this]
      · have : i * j < 0 := Int.mul_neg_of_pos_of_neg (by omega) g2
        simp [g1, g2, this]
      · have : 0 < i * j := Int.mul_pos (by omega) (by omega)
        have h3 : ¬ i * j < 0 := by omega
        simp [g1, g2, h3]

/-! ### by one, by itself, to nought -/
theorem read_one : Ieee.double.read (4607182418800017408 : Int).toNat = .number false 4503599627370496 (-52) := by decide +kernel
theorem read_two : Ieee.double.read (4611686018427387904 : Int).toNat = .number false 4503599627370496 (-51) := by decide +kernel
theorem read_zero : Ieee.double.read (0 : Int).toNat = .number false 0 (-1074) := by decide +kernel
/-- a pattern that is no NaN is a number's or an infinity's -/
theorem plain_read (a : Int) (h0 : 0 ≤ a) (hn : nanB a = false) : (∃ s m p, Ieee.double.read a.toNat = .number s m p) ∨ ∃ s, Ieee.double.read a.toNat = .infinity s := by
  cases e : Ieee.double.read a.toNat with
  | number s m p => exact Or.inl ⟨s, m, p, rfl⟩
  | infinity s => exact Or.inr ⟨s, rfl⟩
  | nan s t => have := nan_of a h0; rw [e, hn] at this; cases this
theorem opI_nan (op : BinOp) (a b : Int) (h0 : 0 ≤ a) (hn : nanB a = true) : opI op a b = 9221120237041090560 := by
  have e := nan_of a h0
  rw [hn] at e
  have h : floatBits op .f64 a.toNat b.toNat = none := by
    cases ea : Ieee.double.read a.toNat with
    | number s m p => rw [ea] at e; cases e
    | infinity s => rw [ea] at e; cases e
    | nan s t =>
      have x1 : floatBits .add .f64 a.toNat b.toNat = ((Ieee.double.read a.toNat).sum (Ieee.double.read b.toNat)).map Ieee.double.write := rfl
      have x2 : floatBits .sub .f64 a.toNat b.toNat = ((Ieee.double.read a.toNat).sum (Ieee.double.read b.toNat).opposite).map Ieee.double.write := rfl
      have x3 : floatBits .mul .f64 a.toNat b.toNat = ((Ieee.double.read a.toNat).product (Ieee.double.read b.toNat)).map Ieee.double.write := rfl
      have x4 : floatBits .quo .f64 a.toNat b.toNat = ((Ieee.double.read a.toNat).quotient 54 (Ieee.double.read b.toNat)).map Ieee.double.write := rfl
      rw [ea] at x1 x2 x3 x4
      cases op
      case add => rw [x1]; rfl
      case sub => rw [x2]; rfl
      case mul => rw [x3]; rfl
      case quo => rw [x4]; rfl
      all_goals rfl
  unfold opI; rw [h]
theorem mul_one (a : Int) (h0 : 0 ≤ a) (h1 : a < 18446744073709551616) (hn : nanB a = false) : opI .mul a 4607182418800017408 = a := by
  have x : floatBits .mul .f64 a.toNat (4607182418800017408 : Int).toNat = ((Ieee.double.read a.toNat).product (Ieee.double.read (4607182418800017408 : Int).toNat)).map Ieee.double.write := rfl
  unfold opI
  rw [x, read_one]
  rcases plain_read a h0 hn with ⟨s, m, p, e⟩ | ⟨s, e⟩
  · rw [e]
    show ((Ieee.double.nearest (s ^^ false) (m * 4503599627370496) (p + -52) : Nat) : Int) = a
    have := nearest_shift Ieee.double s m 52 p
    rw [show (4503599627370496 : Nat) = 2 ^ 52 from by decide, Bool.xor_false, show p + -52 = p - (52 : Nat) from by omega, this, write_read (by omega) e]
    omega
  · rw [e]
    show ((Ieee.double.write (.infinity (s ^^ false)) : Nat) : Int) = a
    rw [Bool.xor_false, write_inf (by omega) e]
    omega
theorem div_one (a : Int) (h0 : 0 ≤ a) (h1 : a < 18446744073709551616) (hn : nanB a = false) : opI .quo a 4607182418800017408 = a := by
  rcases plain_read a h0 hn with ⟨s, m, p, e⟩ | ⟨s, e⟩
  · rw [quo_nearest a _ e read_one (by decide)]
    obtain ⟨m1, hp, -, -, -⟩ := read_number (by omega) e
    have lm : m.log2 ≤ 52 := by
      by_cases hm : m = 0
      · subst hm; decide
      · have : m.log2 < 53 := (Nat.log2_lt hm).2 (by omega)
        omega
    rw [show (4503599627370496 : Nat).log2 = 52 from by decide, show 54 + 52 - m.log2 = (106 - m.log2) from rfl]
    generalize hM : 106 - m.log2 = M
    have e1 : m * 2 ^ M = m * 2 ^ (M - 52) * 4503599627370496 := by
      rw [Nat.mul_assoc, show (4503599627370496 : Nat) = 2 ^ 52 from by decide, ← Nat.pow_add]
      exact congrArg (m * 2 ^ ·) (by omega)
    rw [e1, Nat.mul_div_cancel _ (by decide), Nat.mul_mod_left]
    simp only [bne_self_eq_false, Bool.toNat_false, Nat.add_zero, Bool.xor_false]
    have e2 : 2 * (m * 2 ^ (M - 52)) = m * 2 ^ (M - 51) := by
      rw [show M - 51 = M - 52 + 1 from by omega, Nat.pow_succ, Nat.mul_left_comm, Nat.mul_comm 2]
    have := nearest_shift Ieee.double s m (M - 51) p
    rw [e2, show p - -52 - (M : Nat) - 1 = p - (M - 51 : Nat) from by omega, this, write_read (by omega) e]
    omega
  · have x : floatBits .quo .f64 a.toNat (4607182418800017408 : Int).toNat = ((Ieee.double.read a.toNat).quotient 54 (Ieee.double.read (4607182418800017408 : Int).toNat)).map Ieee.double.write := rfl
    unfold opI
    rw [x, read_one, e]
    show ((Ieee.double.write (.infinity (s ^^ false)) : Nat) : Int) = a
    rw [Bool.xor_false, write_inf (by omega) e]
    omega
theorem sub_self_fin (a : Int) (hf : finB a = true) : opI .sub a a = 0 := by
  obtain ⟨s, m, p, e⟩ := fin_read a hf
  have x : floatBits .sub .f64 a.toNat a.toNat = ((Ieee.double.read a.toNat).sum (Ieee.double.read a.toNat).opposite).map Ieee.double.write := rfl
  unfold opI
  rw [x, e]
  simp only [Datum.opposite, Datum.sum]
  have e1 : signed s m (p - min p p).toNat + signed (!s) m (p - min p p).toNat = 0 := by
    rw [signed_v, signed_v]; cases s <;> simp <;> omega
  rw [e1]
  show ((Ieee.double.nearest (s && !s) 0 (min p p) : Nat) : Int) = 0
  cases s <;> rfl
theorem inf_read (a : Int) (h0 : 0 ≤ a) (h : a % 9223372036854775808 = 9218868437227405312) : ∃ s, Ieee.double.read a.toNat = .infinity s := by
  rw [read_eq, if_neg (by omega), if_neg (by omega), if_pos (by omega)]
  exact ⟨_, rfl⟩
theorem inf_self (a : Int) (h0 : 0 ≤ a) (h : a % 9223372036854775808 = 9218868437227405312) : opI .sub a a = 9221120237041090560 ∧ opI .quo a a = 9221120237041090560 := by
  obtain ⟨s, e⟩ := inf_read a h0 h
  have x : floatBits .sub .f64 a.toNat a.toNat = ((Ieee.double.read a.toNat).sum (Ieee.double.read a.toNat).opposite).map Ieee.double.write := rfl
  have y : floatBits .quo .f64 a.toNat a.toNat = ((Ieee.double.read a.toNat).quotient 54 (Ieee.double.read a.toNat)).map Ieee.double.write := rfl
  unfold opI
  rw [x, y, e]
  cases s <;> exact ⟨rfl, rfl⟩
theorem zero_self (a : Int) (h : a % 9223372036854775808 = 0) : opI .quo a a = 9221120237041090560 := by
  have e : Ieee.double.read a.toNat = .number (a.toNat / 9223372036854775808 % 2 == 1) 0 (-1074) := by
    rw [read_eq, if_pos (by omega), show a.toNat % 9223372036854775808 = 0 from by omega]
  have y : floatBits .quo .f64 a.toNat a.toNat = ((Ieee.double.read a.toNat).quotient 54 (Ieee.double.read a.toNat)).map Ieee.double.write := rfl
  unfold opI
  rw [y, e]
  rfl
theorem div_self (a : Int) (h0 : 0 ≤ a) (h1 : a < 18446744073709551616) (hf : finB a = true) (hz : a % 9223372036854775808 ≠ 0) : opI .quo a a = 4607182418800017408 := by
  obtain ⟨s, m, p, e⟩ := fin_read a hf
  obtain ⟨m1, hp, hp2, hmp, hx⟩ := read_number (by omega) e
  have hm : m ≠ 0 := by
    intro g
    have : p = -1074 := by omega
    subst this; subst g
    apply hz
    have : a.toNat = if s then 9223372036854775808 else 0 := by rw [hx]; simp
    cases s <;> simp at this <;> omega
  rw [quo_nearest a a e e hm, show 54 + m.log2 - m.log2 = 54 from by omega, Nat.mul_div_cancel_left _ (by omega), Nat.mul_mod_right, Bool.xor_self, show p - p - ((54 : Nat) : Int) - 1 = -55 from by omega]
  decide +kernel
theorem add_self (a : Int) (h0 : 0 ≤ a) (h1 : a < 18446744073709551616) (hn : nanB a = false) : opI .add a a = opI .mul a 4611686018427387904 := by
  have x : floatBits .add .f64 a.toNat a.toNat = ((Ieee.double.read a.toNat).sum (Ieee.double.read a.toNat)).map Ieee.double.write := rfl
  have y : floatBits .mul .f64 a.toNat (4611686018427387904 : Int).toNat = ((Ieee.double.read a.toNat).product (Ieee.double.read (4611686018427387904 : Int).toNat)).map Ieee.double.write := rfl
  unfold opI
  rw [x, y, read_two]
  rcases plain_read a h0 hn with ⟨s, m, p, e⟩ | ⟨s, e⟩
  · obtain ⟨m1, hp, -, -, -⟩ := read_number (by omega) e
    rw [e]
    simp only [Datum.sum]
    have e0 : (p - min p p).toNat = 0 := by omega
    rw [e0]
    have e1 : (signed s m 0 + signed s m 0).natAbs = 2 * m := by rw [signed_v]; cases s <;> simp <;> omega
    have e2 : (if signed s m 0 + signed s m 0 = 0 then s && s else decide (signed s m 0 + signed s m 0 < 0)) = s := by
      rw [signed_v]
      cases s
      · simp; omega
      · simp; omega
    rw [e1, e2]
    show ((Ieee.double.nearest s (2 * m) (min p p) : Nat) : Int) = ((Ieee.double.nearest (s ^^ false) (m * 4503599627370496) (p + -51) : Nat) : Int)
    rw [Bool.xor_false, nearest_same Ieee.double s (2 * m) (m * 4503599627370496) (min p p) (p + -51) (p + -51) (by omega) (by omega) ?_]
    rw [show (min p p - (p + -51)).toNat = 51 from by omega, show (p + -51 - (p + -51)).toNat = 0 from by omega]
    omega
  · rw [e]
    cases s <;> rfl
end Go.Proofs.YtdncdddaobemaaaGreatDoor.W.Nu
/- Contracts of package num: the order of two numbers, by their exact numbers. -/
namespace Go.Proofs.YtdncdddaobemaaaGreatDoor.W.Nu
open Go.ChangeShapes Go.WideShapes Go.RowKit

/-- -1, 0, 1 -/
def cmpI (x y : Int) : Int := if x < y then -1 else if y < x then 1 else 0
theorem cmpI_lt {x y : Int} (h : x < y) : cmpI x y = -1 := if_pos h
theorem cmpI_gt {x y : Int} (h : y < x) : cmpI x y = 1 := by unfold cmpI; rw [if_neg (by omega), if_pos h]
theorem cmpI_eq {x y : Int} (h : x = y) : cmpI x y = 0 := by unfold cmpI; rw [if_neg (by omega), if_neg (by omega)]
/-- the order of two doubles; of a whole number and a double; 2: one is a NaN -/
def ordD (u v : Int) : Int := if nanB u = true ∨ nanB v = true then 2 else cmpI (keyI u) (keyI v)
def ordM (i u : Int) : Int := if nanB u = true then 2 else cmpI (i * one1) (keyI u)
def turnI (o : Int) : Int := if o = 2 then 2 else -o
def ordI (a : Bool) (i u : Int) (b : Bool) (j v : Int) : Int := if a = true then (if b = true then cmpI i j else ordM i v) else if b = true then turnI (ordM j u) else ordD u v
theorem cmp_scale (i j : Int) : cmpI (i * one1) (j * one1) = cmpI i j := by
  have P := one1_int
  rcases Int.lt_trichotomy i j with h | h | h
  · rw [cmpI_lt h, cmpI_lt (Int.mul_lt_mul_of_pos_right h P)]
  · rw [cmpI_eq h, cmpI_eq (by rw [h])]
  · rw [cmpI_gt h, cmpI_gt (Int.mul_lt_mul_of_pos_right h P)]

set_option maxHeartbeats 400000 in
theorem cmpNaN_c (x : Int) (w : World) :
    Calls Tryz.prog 281 #[.int .i64 x] w fun e w' => e = .returned (.bool false) ∧ w' = w := by
  have hx : (x != x) = false := by simp
  go_enter Tryz.func281, Tryz.ntmps281
  go_wp2
  go_ret
  exact ⟨rfl, rfl⟩
set_option maxHeartbeats 400000 in
theorem compare_c (x y : Int) (w : World) :
    Calls Tryz.prog 249 #[.int .i64 x, .int .i64 y] w fun e w' => e = .returned (.int .i64 (cmpI x y)) ∧ w' = w := by
  have hC : (x < y ∧ cmpI x y = -1) ∨ (¬ x < y ∧ y < x ∧ cmpI x y = 1) ∨ (¬ x < y ∧ ¬ y < x ∧ cmpI x y = 0) := by
    unfold cmpI
    by_cases h1 : x < y
    · exact Or.inl ⟨h1, if_pos h1⟩
    · by_cases h2 : y < x
      · exact Or.inr (Or.inl ⟨h1, h2, by rw [if_neg h1, if_pos h2]⟩)
      · exact Or.inr (Or.inr ⟨h1, h2, by rw [if_neg h1, if_neg h2]⟩)
  rcases hC with ⟨h1, h3⟩ | ⟨h1, h2, h3⟩ | ⟨h1, h2, h3⟩
  all_goals
    rw [h3]
    clear h3
    go_enter Tryz.func249, Tryz.ntmps249
    go_wp2_with (go_at_call 281; refine (cmpNaN_c _ _).mono ?_; rintro e w' ⟨rfl, rfl⟩)
    go_ret
    exact ⟨rfl, rfl⟩
theorem ordD_cases (u v : Int) (u0 : 0 ≤ u) (u1 : u < 18446744073709551616) (v0 : 0 ≤ v) (v1 : v < 18446744073709551616) :
    (lessI u v = true ∧ ordD u v = -1) ∨ (lessI u v = false ∧ equalI u v = true ∧ lessI v u = false ∧ ordD u v = 0) ∨ (lessI u v = false ∧ equalI u v = false ∧ lessI v u = true ∧ ordD u v = 1) ∨ (lessI u v = false ∧ equalI u v = false ∧ lessI v u = false ∧ ordD u v = 2) := by
  unfold ordD
  by_cases h : nanB u = true ∨ nanB v = true
  · obtain ⟨n1, n2, n3⟩ := less_nan u v u0 v0 h
    obtain ⟨n4, n5, n6⟩ := less_nan v u v0 u0 h.symm
    exact Or.inr (Or.inr (Or.inr ⟨n1, n2, n4, if_pos h⟩))
  · have nu : nanB u = false := by cases g : nanB u; · rfl
                                   · exact absurd (Or.inl g) h
    have nv : nanB v = false := by cases g : nanB v; · rfl
                                   · exact absurd (Or.inr g) h
    rw [if_neg h, lessI_key u v u0 u1 v0 v1 nu nv, lessI_key v u v0 v1 u0 u1 nv nu, equalI_key u v u0 u1 v0 v1 nu nv]
    rcases Int.lt_trichotomy (keyI u) (keyI v) with g | g | g
    · exact Or.inl ⟨decide_eq_true g, cmpI_lt g⟩
    · exact Or.inr (Or.inl ⟨decide_eq_false (by omega), decide_eq_true g, decide_eq_false (by omega), cmpI_eq g⟩)
    · exact Or.inr (Or.inr (Or.inl ⟨decide_eq_false (by omega), decide_eq_false (by omega), decide_eq_true g, cmpI_gt g⟩))
set_option maxHeartbeats 400000 in
theorem orderDoubles_c (u v : Int) (u0 : 0 ≤ u) (u1 : u < 18446744073709551616) (v0 : 0 ≤ v) (v1 : v < 18446744073709551616) (w : World) :
    Calls Tryz.prog 252 #[.int .u64 u, .int .u64 v] w fun e w' => e = .returned (.int .i64 (ordD u v)) ∧ w' = w := by
  have c1 := softLess_c u v
  have c2 := softEqual_c u v
  have c3 := softLess_c v u
  rcases ordD_cases u v u0 u1 v0 v1 with ⟨h1, h4⟩ | ⟨h1, h2, h3, h4⟩ | ⟨h1, h2, h3, h4⟩ | ⟨h1, h2, h3, h4⟩
  all_goals
    rw [h4]
    (try rw [h1] at c1)
    (try rw [h2] at c2)
    (try rw [h3] at c3)
    clear h4
    go_enter Tryz.func252, Tryz.ntmps252
    go_wp2_with (first | (go_at_call 282; with_reducible refine (c1 _).mono ?_; rintro e w' ⟨rfl, rfl⟩) | (go_at_call 283; with_reducible refine (c2 _).mono ?_; rintro e w' ⟨rfl, rfl⟩) | (go_at_call 282; with_reducible refine (c3 _).mono ?_; rintro e w' ⟨rfl, rfl⟩))
    go_ret
    exact ⟨rfl, rfl⟩

/-! ### a whole number beside a double -/
theorem key_zero : keyI (fromI 0) = 0 := by rw [(fromI_key 0 (by decide)).2, Int.zero_mul]
/-- an infinity's number is beyond all others -/
theorem inf_key (u : Int) (u0 : 0 ≤ u) (u1 : u < 18446744073709551616) (nu : nanB u = false) (hf : fitsB u = false) : 9223372036854775808 * (one1 : Int) ≤ keyI u ∨ keyI u < -9223372036854775808 * one1 := by
  rw [fits_key u u0 u1 nu] at hf
  simp only [decide_eq_false_iff_not] at hf
  omega
theorem fits_nan (u : Int) (u0 : 0 ≤ u) (hn : nanB u = true) : fitsB u = false := by
  unfold fitsB
  have h1 := order_nan u 14114281232179134464 u0 (by decide) (Or.inl hn)
  rw [show (14114281232179134464 : Int).toNat = 14114281232179134464 from rfl] at h1
  rw [h1]; rfl
theorem fits_fin (u : Int) (u0 : 0 ≤ u) (u1 : u < 18446744073709551616) (hf : fitsB u = true) : nanB u = false ∧ finB u = true ∧ -9223372036854775808 * (one1 : Int) ≤ keyI u ∧ keyI u < 9223372036854775808 * one1 := by
  have nu : nanB u = false := by
    cases g : nanB u
    · rfl
    · rw [fits_nan u u0 g] at hf; cases hf
  have hk := hf
  rw [fits_key u u0 u1 nu, decide_eq_true_eq] at hk
  refine ⟨nu, ?_, hk⟩
  cases g : finB u
  · exfalso
    have hm : u % 9223372036854775808 = 9218868437227405312 := by
      simp only [finB, decide_eq_false_iff_not] at g
      simp only [nanB, decide_eq_false_iff_not] at nu
      omega
    have : u = 9218868437227405312 ∨ u = 18442240474082181120 := by omega
    rcases this with rfl | rfl <;> exact absurd hf (by decide +kernel)
  · rfl
/-- where the whole part lies -/
theorem part_order (i t k : Int) (h : (0 ≤ k ∧ t * one1 ≤ k ∧ k < t * one1 + one1) ∨ (k ≤ 0 ∧ k ≤ t * one1 ∧ t * one1 - one1 < k)) (hne : i ≠ t) : cmpI i t = cmpI (i * one1) k := by
  have P := one1_int
  rcases Int.lt_trichotomy i t with g | g | g
  · rw [cmpI_lt g]
    have : (i + 1) * (one1 : Int) ≤ t * one1 := Int.mul_le_mul_of_nonneg_right (by omega) (by omega)
    rw [Int.add_mul] at this
    rw [cmpI_lt (by omega)]
  · exact absurd g hne
  · rw [cmpI_gt g]
    have : (t + 1) * (one1 : Int) ≤ i * one1 := Int.mul_le_mul_of_nonneg_right (by omega) (by omega)
    rw [Int.add_mul] at this
    rw [cmpI_gt (by omega)]
/-- a double's whole part is a double -/
theorem part_from (u : Int) (u0 : 0 ≤ u) (u1 : u < 18446744073709551616) (hf : finB u = true) : keyI (fromI (truncI u)) = truncI u * one1 := by
  obtain ⟨s, m, p, e⟩ := fin_read u hf
  obtain ⟨q1, q2, q3, q4, q5⟩ := read_number (by omega) e
  by_cases hp : p ≤ 0
  · refine (fromI_key _ ?_).2
    unfold truncI
    rw [e]
    simp only [signed_v, Nat.pow_zero, Nat.mul_one]
    have e0 : p.toNat = 0 := by omega
    rw [e0, Nat.pow_zero, Nat.mul_one]
    have := Nat.div_le_self m (2 ^ (-p).toNat)
    generalize m / 2 ^ (-p).toNat = T at *
    cases s <;> simp <;> omega
  · have e1 : (-p).toNat = 0 := by omega
    have ht : truncI u = if s then -((m * 2 ^ p.toNat : Nat) : Int) else ((m * 2 ^ p.toNat : Nat) : Int) := by
      unfold truncI
      rw [e]
      simp only [signed_v, Nat.pow_zero, Nat.mul_one, e1, Nat.div_one]
    have hm : 4503599627370496 ≤ m := by omega
    have hV : 0 < m * 2 ^ p.toNat := Nat.mul_pos (by omega) (Nat.two_pow_pos _)
    have e3 : Ieee.double.nearest s (m * 2 ^ p.toNat) 0 = u.toNat := by
      have e3 : Ieee.double.nearest s (m * 2 ^ p.toNat) 0 = Ieee.double.nearest s m p := nearest_same Ieee.double s _ m 0 p 0 (by omega) (by omega) (by simp)
      rw [e3, write_read (by omega) e]
    have ef : fromI (truncI u) = (Ieee.double.nearest (decide (truncI u < 0)) (truncI u).natAbs 0 : Nat) := rfl
    have ed : decide (truncI u < 0) = s ∧ (truncI u).natAbs = m * 2 ^ p.toNat := by
      rw [ht]
      generalize m * 2 ^ p.toNat = V at *
      cases s <;> simp <;> omega
    have eu : fromI (truncI u) = u := by rw [ef, ed.1, ed.2, e3]; omega
    rw [eu, ht]
    have ek : m * 2 ^ (p + 1074).toNat = m * 2 ^ p.toNat * one1 := by
      rw [Nat.mul_assoc, ← pow_one1 (k := (p + 1074).toNat - p.toNat) (by omega), ← Nat.pow_add]
      congr 2; omega
    unfold keyI
    rw [e]
    simp only [key, signed_v]
    rw [ek]
    generalize m * 2 ^ p.toNat = V at *
    cases s
    · simp only [Bool.false_eq_true, if_false, Int.natCast_mul]
    · simp only [if_true, Int.natCast_mul, Int.neg_mul]
theorem bne_false {x y : Int} (h : x = y) : (x != y) = false := by simp [h]
set_option maxHeartbeats 400000 in
theorem orderMixed_out (i u o : Int) (c1 : ∀ w, Calls Tryz.prog 55 #[.int .u64 u] w fun e w' => e = .returned (.tuple #[.int .i64 0, .int .i64 13]) ∧ w' = w) (z : Int) (c2 : ∀ w, Calls Tryz.prog 57 #[.int .i64 0] w fun e w' => e = .returned (.int .u64 z) ∧ w' = w)
    (c3 : ∀ w, Calls Tryz.prog 252 #[.int .u64 z, .int .u64 u] w fun e w' => e = .returned (.int .i64 o) ∧ w' = w) (w : World) :
    Calls Tryz.prog 250 #[.int .i64 i, .int .u64 u] w fun e w' => e = .returned (.int .i64 o) ∧ w' = w := by
  go_enter Tryz.func250, Tryz.ntmps250
  go_wp2_with (first | (go_at_call 55; with_reducible refine (c1 _).mono ?_; rintro e w' ⟨rfl, rfl⟩) | (go_at_call 57; with_reducible refine (c2 _).mono ?_; rintro e w' ⟨rfl, rfl⟩) | (go_at_call 252; with_reducible refine (c3 _).mono ?_; rintro e w' ⟨rfl, rfl⟩))
  go_ret
  exact ⟨rfl, rfl⟩
set_option maxHeartbeats 400000 in
theorem orderMixed_other (i u t : Int) (hne : (i != t) = true) (c1 : ∀ w, Calls Tryz.prog 55 #[.int .u64 u] w fun e w' => e = .returned (.tuple #[.int .i64 t, .int .i64 0]) ∧ w' = w) (w : World) :
    Calls Tryz.prog 250 #[.int .i64 i, .int .u64 u] w fun e w' => e = .returned (.int .i64 (cmpI i t)) ∧ w' = w := by
  go_enter Tryz.func250, Tryz.ntmps250
  go_wp2_with (first | (go_at_call 55; with_reducible refine (c1 _).mono ?_; rintro e w' ⟨rfl, rfl⟩) | (go_at_call 249; refine (compare_c _ _ _).mono ?_; rintro e w' ⟨rfl, rfl⟩))
  go_ret
  exact ⟨rfl, rfl⟩
set_option maxHeartbeats 400000 in
theorem orderMixed_same (i u o : Int) (c1 : ∀ w, Calls Tryz.prog 55 #[.int .u64 u] w fun e w' => e = .returned (.tuple #[.int .i64 i, .int .i64 0]) ∧ w' = w) (z : Int) (c2 : ∀ w, Calls Tryz.prog 57 #[.int .i64 i] w fun e w' => e = .returned (.int .u64 z) ∧ w' = w)
    (c3 : ∀ w, Calls Tryz.prog 252 #[.int .u64 z, .int .u64 u] w fun e w' => e = .returned (.int .i64 o) ∧ w' = w) (w : World) :
    Calls Tryz.prog 250 #[.int .i64 i, .int .u64 u] w fun e w' => e = .returned (.int .i64 o) ∧ w' = w := by
  go_enter Tryz.func250, Tryz.ntmps250
  go_wp2_with (first | (go_at_call 55; with_reducible refine (c1 _).mono ?_; rintro e w' ⟨rfl, rfl⟩) | (go_at_call 57; with_reducible refine (c2 _).mono ?_; rintro e w' ⟨rfl, rfl⟩) | (go_at_call 252; with_reducible refine (c3 _).mono ?_; rintro e w' ⟨rfl, rfl⟩))
  go_ret
  exact ⟨rfl, rfl⟩
theorem orderMixed_c (i u : Int) (i0 : -9223372036854775808 ≤ i) (i1 : i < 9223372036854775808) (u0 : 0 ≤ u) (u1 : u < 18446744073709551616) (w : World) :
    Calls Tryz.prog 250 #[.int .i64 i, .int .u64 u] w fun e w' => e = .returned (.int .i64 (ordM i u)) ∧ w' = w := by
  have P := one1_int
  cases hf : fitsB u with
  | false =>
    have z := fromI_range 0
    have e : ordD (fromI 0) u = ordM i u := by
      unfold ordD ordM
      rw [fromI_nan 0]
      cases nu : nanB u with
      | true => simp
      | false =>
        simp only [Bool.false_eq_true, or_false, if_false]
        rw [key_zero]
        rcases inf_key u u0 u1 nu hf with h | h
        · have : i * (one1 : Int) < 9223372036854775808 * one1 := Int.mul_lt_mul_of_pos_right i1 P
          rw [cmpI_lt (by omega), cmpI_lt (by omega)]
        · have : -9223372036854775808 * (one1 : Int) ≤ i * one1 := Int.mul_le_mul_of_nonneg_right i0 (by omega)
          rw [cmpI_gt (by omega), cmpI_gt (by omega)]
    rw [← e]
    exact orderMixed_out i u _ (softTrunc_out u hf) _ (softFromInt_c 0) (orderDoubles_c _ u z.1 z.2 u0 u1) w
  | true =>
    obtain ⟨nu, fu, k1, k2⟩ := fits_fin u u0 u1 hf
    have tv := trunc_val u u1 fu k1 k2
    obtain ⟨p1, p2⟩ := trunc_key u u1 fu
    have hp : (0 ≤ keyI u ∧ truncI u * one1 ≤ keyI u ∧ keyI u < truncI u * one1 + one1) ∨ (keyI u ≤ 0 ∧ keyI u ≤ truncI u * one1 ∧ truncI u * one1 - one1 < keyI u) := by
      by_cases h : 0 ≤ keyI u
      · exact Or.inl ⟨h, p1 h⟩
      · exact Or.inr ⟨by omega, p2 (by omega)⟩
    by_cases hne : i = truncI u
    · subst hne
      have e : ordD (fromI (truncI u)) u = ordM (truncI u) u := by
        unfold ordD ordM
        rw [fromI_nan, nu, part_from u u0 u1 fu]
        simp
      rw [← e]
      have z := fromI_range (truncI u)
      exact orderMixed_same _ u _ (softTrunc_in u _ tv hf) _ (softFromInt_c _) (orderDoubles_c _ u z.1 z.2 u0 u1) w
    · have e : cmpI i (truncI u) = ordM i u := by
        unfold ordM
        rw [nu, part_order i _ _ hp hne]
        simp
      rw [← e]
      exact orderMixed_other i u _ (by simpa using hne) (softTrunc_in u _ tv hf) w
theorem turn_neg (o : Int) (h : o = -1 ∨ o = 0 ∨ o = 1) : IntKind.i64.wrap (-o) = -o := by rcases h with rfl | rfl | rfl <;> decide
set_option maxHeartbeats 400000 in
theorem turned_c (o : Int) (h : o = -1 ∨ o = 0 ∨ o = 1 ∨ o = 2) (w : World) :
    Calls Tryz.prog 251 #[.int .i64 o] w fun e w' => e = .returned (.int .i64 (turnI o)) ∧ w' = w := by
  rcases h with rfl | rfl | rfl | rfl
  all_goals
    go_enter Tryz.func251, Tryz.ntmps251
    go_wp2
    go_ret
    exact ⟨rfl, rfl⟩
theorem cmpI_three (x y : Int) : cmpI x y = -1 ∨ cmpI x y = 0 ∨ cmpI x y = 1 := by unfold cmpI; split; · simp
                                                                                   · split <;> simp
theorem ordM_four (i u : Int) : ordM i u = -1 ∨ ordM i u = 0 ∨ ordM i u = 1 ∨ ordM i u = 2 := by
  unfold ordM
  split
  · simp
  · rcases cmpI_three (i * one1) (keyI u) with h | h | h <;> simp [h]
set_option maxHeartbeats 1000000 in
theorem order_core (a b : Bool) (i u j v o t : Int) (c1 : ∀ w, Calls Tryz.prog 250 #[.int .i64 i, .int .u64 v] w fun e w' => e = .returned (.int .i64 (ordM i v)) ∧ w' = w)
    (c2 : ∀ w, Calls Tryz.prog 250 #[.int .i64 j, .int .u64 u] w fun e w' => e = .returned (.int .i64 o) ∧ w' = w) (c3 : ∀ w, Calls Tryz.prog 251 #[.int .i64 o] w fun e w' => e = .returned (.int .i64 t) ∧ w' = w)
    (c4 : ∀ w, Calls Tryz.prog 252 #[.int .u64 u, .int .u64 v] w fun e w' => e = .returned (.int .i64 (ordD u v)) ∧ w' = w) (w : World) :
    Calls Tryz.prog 200 #[.agg #[.bool a, .int .i64 i, .int .u64 u], .agg #[.bool b, .int .i64 j, .int .u64 v]] w fun e w' => e = .returned (.int .i64 (if a = true then (if b = true then cmpI i j else ordM i v) else if b = true then t else ordD u v)) ∧ Gr w w' := by
  have k1 : kindI true true = 0 := rfl
  have k2 : kindI true false = 1 := rfl
  have k3 : kindI false true = 2 := rfl
  have k4 : kindI false false = 3 := rfl
  cases a <;> cases b
  all_goals
    go_enter Tryz.func200, Tryz.ntmps200
    go_wp2_with (first | (go_at_call 124; refine (kinds_c _ _ _ _ _ _ _).mono ?_; rintro e w' ⟨rfl, hg⟩; obtain ⟨fA, fB, hG⟩ := hg.two (Nat.zero_lt_succ _) (Nat.zero_lt_succ _); clear hg) | (go_at_call 249; refine (compare_c _ _ _).mono ?_; rintro e w' ⟨rfl, rfl⟩) | (go_at_call 250; with_reducible refine (c1 _).mono ?_; rintro e w' ⟨rfl, rfl⟩) | (go_at_call 250; with_reducible refine (c2 _).mono ?_; rintro e w' ⟨rfl, rfl⟩) | (go_at_call 251; with_reducible refine (c3 _).mono ?_; rintro e w' ⟨rfl, rfl⟩) | (go_at_call 252; with_reducible refine (c4 _).mono ?_; rintro e w' ⟨rfl, rfl⟩))
    go_ret
    exact ⟨rfl, hG⟩
/-- what a number must be: a whole number of 64 bits, a pattern of 64 bits -/
def inN (i u : Int) : Prop := (-9223372036854775808 ≤ i ∧ i < 9223372036854775808) ∧ 0 ≤ u ∧ u < 18446744073709551616
theorem order_c (a b : Bool) (i u j v : Int) (h : inN i u) (k : inN j v) (w : World) :
    Calls Tryz.prog 200 #[.agg #[.bool a, .int .i64 i, .int .u64 u], .agg #[.bool b, .int .i64 j, .int .u64 v]] w fun e w' => e = .returned (.int .i64 (ordI a i u b j v)) ∧ Gr w w' :=
  order_core a b i u j v _ _ (orderMixed_c i v h.1.1 h.1.2 k.2.1 k.2.2) (orderMixed_c j u k.1.1 k.1.2 h.2.1 h.2.2) (turned_c _ (ordM_four j u)) (orderDoubles_c u v h.2.1 h.2.2 k.2.1 k.2.2) w
/-- what Less, LessEq, Equal answer -/
def lessN (a : Bool) (i u : Int) (b : Bool) (j v : Int) : Bool := ordI a i u b j v == -1
def equalN (a : Bool) (i u : Int) (b : Bool) (j v : Int) : Bool := ordI a i u b j v == 0
def lessEqN (a : Bool) (i u : Int) (b : Bool) (j v : Int) : Bool := ordI a i u b j v == -1 || ordI a i u b j v == 0
set_option maxHeartbeats 400000 in
theorem numLess_c (a b : Bool) (i u j v : Int) (h : inN i u) (k : inN j v) (w : World) :
    Calls Tryz.prog 145 #[.agg #[.bool a, .int .i64 i, .int .u64 u], .agg #[.bool b, .int .i64 j, .int .u64 v]] w fun e w' => e = .returned (.bool (lessN a i u b j v)) ∧ Gr w w' := by
  go_enter Tryz.func145, Tryz.ntmps145
  go_wp2_with (go_at_call 200; refine (order_c _ _ _ _ _ _ h k _).mono ?_; rintro e w' ⟨rfl, hg⟩; obtain ⟨fA, fB, hG⟩ := hg.two (Nat.zero_lt_succ _) (Nat.zero_lt_succ _); clear hg)
  go_ret
  exact ⟨rfl, hG⟩
set_option maxHeartbeats 400000 in
theorem numEqual_c (a b : Bool) (i u j v : Int) (h : inN i u) (k : inN j v) (w : World) :
    Calls Tryz.prog 195 #[.agg #[.bool a, .int .i64 i, .int .u64 u], .agg #[.bool b, .int .i64 j, .int .u64 v]] w fun e w' => e = .returned (.bool (equalN a i u b j v)) ∧ Gr w w' := by
  go_enter Tryz.func195, Tryz.ntmps195
  go_wp2_with (go_at_call 200; refine (order_c _ _ _ _ _ _ h k _).mono ?_; rintro e w' ⟨rfl, hg⟩; obtain ⟨fA, fB, hG⟩ := hg.two (Nat.zero_lt_succ _) (Nat.zero_lt_succ _); clear hg)
  go_ret
  exact ⟨rfl, hG⟩
set_option maxHeartbeats 400000 in
theorem numLessEq_c (a b : Bool) (i u j v : Int) (h : inN i u) (k : inN j v) (w : World) :
    Calls Tryz.prog 147 #[.agg #[.bool a, .int .i64 i, .int .u64 u], .agg #[.bool b, .int .i64 j, .int .u64 v]] w fun e w' => e = .returned (.bool (lessEqN a i u b j v)) ∧ Gr w w' := by
  cases hl : (ordI a i u b j v == -1) with
  | true =>
    go_enter Tryz.func147, Tryz.ntmps147
    go_wp2_with (go_at_call 200; refine (order_c _ _ _ _ _ _ h k _).mono ?_; rintro e w' ⟨rfl, hg⟩; obtain ⟨fA, fB, hG⟩ := hg.two (Nat.zero_lt_succ _) (Nat.zero_lt_succ _); clear hg)
    go_ret
    exact ⟨ret_bool (by simp [lessEqN, hl]), hG⟩
  | false =>
    go_enter Tryz.func147, Tryz.ntmps147
    go_wp2_with (go_at_call 200; refine (order_c _ _ _ _ _ _ h k _).mono ?_; rintro e w' ⟨rfl, hg⟩; obtain ⟨fA, fB, hG⟩ := hg.two (Nat.zero_lt_succ _) (Nat.zero_lt_succ _); clear hg)
    go_ret
    exact ⟨ret_bool (by simp [lessEqN, hl]), hG⟩
end Go.Proofs.YtdncdddaobemaaaGreatDoor.W.Nu
/- Package ops: jobs that compare; Binary over them. -/
namespace Go.Proofs.YtdncdddaobemaaaGreatDoor.W.Nu
open Go.ChangeShapes Go.WideShapes Go.RowKit Go.Shelf
set_option linter.unusedVariables false
set_option maxRecDepth 100000 in
set_option maxHeartbeats 1000000 in
theorem done2_k2 (W : World) (hb wb : Nat) (a b : Nat) (kf : Nat) (eg : ∀ args w, (callFunc kf args).run Tryz.prog w = .ok (.enter kf args) w) (cp cq : Nat) (vr : Value) (rs : List Nat) (hr : WordsAt W vr rs) (hl : rs.length ≤ 999000) (k0 i0 b0 r0 : Int) (s0 : ByteArray) (k1 i1 b1 r1 : Int) (s1 : ByteArray) (hw0 : W.cell? ⟨wb, 0, none⟩ = some (.int .u64 (a : Nat))) (hw1 : W.cell? ⟨wb, 1, none⟩ = some (.int .u64 (b : Nat))) (lt0 : a < 18446744073709551616) (lt1 : b < 18446744073709551616)
    (cu0 : ∀ w', Below W.heap.size W w' → Calls Tryz.prog 14 #[.pointer (some ⟨hb, 0, none⟩), .int .u64 (a : Nat)] w' fun e w'' => e = .returned (.tuple #[.agg #[.int .i64 k0, .int .i64 i0, .int .u64 b0, .string s0, .int .u64 r0], .int .i64 0]) ∧ Below w'.heap.size w' w'') (cu1 : ∀ w', Below W.heap.size W w' → Calls Tryz.prog 14 #[.pointer (some ⟨hb, 0, none⟩), .int .u64 (b : Nat)] w' fun e w'' => e = .returned (.tuple #[.agg #[.int .i64 k1, .int .i64 i1, .int .u64 b1, .string s1, .int .u64 r1], .int .i64 0]) ∧ Below w'.heap.size w' w'')
    {R : Ending → World → Prop} (two : ∀ e w', R e w' → ∃ x y, e = .returned (.tuple #[.int .u64 x, .int .i64 y]))
    (cj : ∀ (w' : World) (vb : Nat) (vr' : Value), Below W.heap.size W w' → (∀ j, w'.cell? ⟨vb, j, none⟩ = #[.int .i64 k0, .int .i64 i0, .int .u64 b0, .string s0, .int .u64 r0, .int .i64 k1, .int .i64 i1, .int .u64 b1, .string s1, .int .u64 r1][j]?) → WordsAt w' vr' (rs ++ [a, b]) → Calls Tryz.prog kf #[.agg #[.pointer (some ⟨hb, 0, none⟩), .slice (some ⟨wb, 0, none⟩) 2 2, .slice (some ⟨vb, 0, none⟩) 2 2, vr'], .pointer (some ⟨cp, 0, none⟩), .pointer (some ⟨cq, 0, none⟩)] w' R) :
    Calls Tryz.prog 13 #[.pointer (some ⟨hb, 0, none⟩), .func (.func kf) #[] #[.pointer (some ⟨cp, 0, none⟩), .pointer (some ⟨cq, 0, none⟩)], .slice (some ⟨wb, 0, none⟩) 2 2, vr] W R := by
  have T := hid two
  clear two
  have hmk := make2 W
  have hB1 : Below W.heap.size W (W.alloc (.cells #[.int .i64 0, .int .i64 0, .int .u64 0, .string ⟨#[]⟩, .int .u64 0, .int .i64 0, .int .i64 0, .int .u64 0, .string ⟨#[]⟩, .int .u64 0] 46)) := (Below.refl _ W).alloc (Nat.le_refl _) _
  have f1 : (W.alloc (.cells [.int .i64 0, .int .i64 0, .int .u64 0, .string ⟨#[]⟩, .int .u64 0, .int .i64 0, .int .i64 0, .int .u64 0, .string ⟨#[]⟩, .int .u64 0].toArray 46)).heap[W.heap.size]? = some (.cells [.int .i64 0, .int .i64 0, .int .u64 0, .string ⟨#[]⟩, .int .u64 0, .int .i64 0, .int .i64 0, .int .u64 0, .string ⟨#[]⟩, .int .u64 0].toArray 46 (0, 0)) := World.alloc_heap_new W (.cells #[.int .i64 0, .int .i64 0, .int .u64 0, .string ⟨#[]⟩, .int .u64 0, .int .i64 0, .int .i64 0, .int .u64 0, .string ⟨#[]⟩, .int .u64 0] 46)
  obtain ⟨o1, cap1, hvr, -⟩ := id hr
  subst hvr
  have hWB : Hid (W.heap.size ≤ W.heap.size) := Nat.le_refl _
  go_enter Tryz.func13, Tryz.ntmps13
  go_upto_region 3 with fail
  have hWW : wb ≠ W.heap.size := by have := cell_lt hw0; omega
  have HV := hid hB1
  have HR := hid hr
  clear hmk hr hB1
  have f := f1
  clear f1
  replace hw0 := cell_keep HV.out hw0
  replace hw1 := cell_keep HV.out hw1
  generalize hW1 : W.alloc (.cells #[.int .i64 0, .int .i64 0, .int .u64 0, .string ⟨#[]⟩, .int .u64 0, .int .i64 0, .int .i64 0, .int .u64 0, .string ⟨#[]⟩, .int .u64 0] 46) = W1 at *
  clear hW1
  go_wp2
  refine wp_loop_rounds 3 ?_
  rw [rounds_succ]
  go_upto_region 8 with (go_at_call 14; (with_reducible refine (cu0 _ HV.out).mono ?_); rintro e W2 ⟨rfl, hB2⟩; clear cu0)
  have hB3 : Below W2.heap.size W2 (W2.alloc (.cells #[.int .i64 k0, .int .i64 i0, .int .u64 b0, .string s0, .int .u64 r0] 46)) := (Below.refl _ W2).alloc (Nat.le_refl _) _
  have hB4 := hB2.trans (hB3.mono hB2.size)
  replace HV := hid (HV.out.trans (hB4.mono HV.out.size))
  replace f := row_below f hB4
  replace hw0 := cell_keep hB4 hw0
  replace hw1 := cell_keep hB4 hw1
  have e13 := World.cell?_alloc_new W2 #[.int .i64 k0, .int .i64 i0, .int .u64 b0, .string s0, .int .u64 r0] 46
  have cv := row_cells f
  have zv := row_thaw f
  clear hB2 hB3 hB4
  generalize W2.heap.size = b13 at *
  generalize W2.alloc (.cells #[.int .i64 k0, .int .i64 i0, .int .u64 b0, .string s0, .int .u64 r0] 46) = W3 at *
  have F := hid f
  clear f
  go_upto_region 9 with fail
  generalize hW5 : World.setCell _ _ _ = W5
  obtain ⟨f, hB5, far⟩ := set5 F.out HV.out (Nat.le_refl _) 0 1 2 3 4 _ _ _ _ _ hW5
  replace f : W5.heap[W.heap.size]? = some (.cells [.int .i64 k0, .int .i64 i0, .int .u64 b0, .string s0, .int .u64 r0, .int .i64 0, .int .i64 0, .int .u64 0, .string ⟨#[]⟩, .int .u64 0].toArray 46 (0, 0)) := f
  replace HV := hid hB5
  replace hw0 := (far _ _ hWW).trans hw0
  replace hw1 := (far _ _ hWW).trans hw1
  clear hW5 F cv zv e13 far hB5
  go_wp2
  rw [rounds_succ]
  go_upto_region 8 with (go_at_call 14; (with_reducible refine (cu1 _ HV.out).mono ?_); rintro e W2 ⟨rfl, hB2⟩; clear cu1)
  have hB3 : Below W2.heap.size W2 (W2.alloc (.cells #[.int .i64 k1, .int .i64 i1, .int .u64 b1, .string s1, .int .u64 r1] 46)) := (Below.refl _ W2).alloc (Nat.le_refl _) _
  have hB4 := hB2.trans (hB3.mono hB2.size)
  replace HV := hid (HV.out.trans (hB4.mono HV.out.size))
  replace f := row_below f hB4
  replace hw0 := cell_keep hB4 hw0
  replace hw1 := cell_keep hB4 hw1
  have e13 := World.cell?_alloc_new W2 #[.int .i64 k1, .int .i64 i1, .int .u64 b1, .string s1, .int .u64 r1] 46
  have cv := row_cells f
  have zv := row_thaw f
  clear hB2 hB3 hB4
  generalize W2.heap.size = b13 at *
  generalize W2.alloc (.cells #[.int .i64 k1, .int .i64 i1, .int .u64 b1, .string s1, .int .u64 r1] 46) = W3 at *
  have F := hid f
  clear f
  go_upto_region 9 with fail
  generalize hW5 : World.setCell _ _ _ = W5
  obtain ⟨f, hB5, far⟩ := set5 F.out HV.out (Nat.le_refl _) 5 6 7 8 9 _ _ _ _ _ hW5
  replace f : W5.heap[W.heap.size]? = some (.cells [.int .i64 k0, .int .i64 i0, .int .u64 b0, .string s0, .int .u64 r0, .int .i64 k1, .int .i64 i1, .int .u64 b1, .string s1, .int .u64 r1].toArray 46 (0, 0)) := f
  replace HV := hid hB5
  replace hw0 := (far _ _ hWW).trans hw0
  replace hw1 := (far _ _ hWW).trans hw1
  clear hW5 F cv zv e13 far hB5
  go_wp2
  rw [rounds_succ]
  go_upto_region 10 with fail
  have hBa : Below W5.heap.size W5 (W5.alloc (.cells #[.slice o1 rs.length cap1, .slice (some ⟨wb, 0, none⟩) 2 2] 31)) := (Below.refl _ W5).alloc (Nat.le_refl _) _
  have e0 := World.cell?_alloc_new W5 #[.slice o1 rs.length cap1, .slice (some ⟨wb, 0, none⟩) 2 2] 31
  have ww : WordsAt W5 (.slice (some ⟨wb, 0, none⟩) 2 2) [a, b] := words_of2 hw0 hw1 lt0 lt1
  have cs := sconcat_c (W5.alloc (.cells #[.slice o1 rs.length cap1, .slice (some ⟨wb, 0, none⟩) 2 2] 31)) W5.heap.size 2 _ _ rs [a, b] (e0 0) (e0 1) (words_below (words_below HR.out HV.out) hBa) (words_below ww hBa) (by simp only [List.length_cons, List.length_nil]; omega) (by simp)
  have cx : ∀ (w2 : World) (v : Value), Below (W5.alloc (.cells #[.slice o1 rs.length cap1, .slice (some ⟨wb, 0, none⟩) 2 2] 31)).heap.size (W5.alloc (.cells #[.slice o1 rs.length cap1, .slice (some ⟨wb, 0, none⟩) 2 2] 31)) w2 → WordsAt w2 v (rs ++ [a, b]) → Calls Tryz.prog kf #[.agg #[.pointer (some ⟨hb, 0, none⟩), .slice (some ⟨wb, 0, none⟩) 2 2, .slice (some ⟨W.heap.size, 0, none⟩) 2 2, v], .pointer (some ⟨cp, 0, none⟩), .pointer (some ⟨cq, 0, none⟩)] w2 R := by
    intro w2 v hB hv
    have hBb := hBa.trans (hB.mono hBa.size)
    exact cj w2 W.heap.size v (HV.out.trans (hBb.mono HV.out.size)) (row_cells (row_below f hBb)) hv
  clear cj f ww e0 hBa HR HV hw0 hw1
  go_wp2_with (first | (go_at_call 40; (with_reducible refine cs.mono ?_); rintro e w2 ⟨v, rfl, hB2, hw2⟩; (obtain ⟨o2, cap2, hv2, -⟩ := id hw2); (rw [show (rs ++ [a, b]).length = rs.length + 2 from by simp] at hv2); subst hv2; clear cs) | (go_at_fn kf; (with_reducible refine (cx _ _ hB2 hw2).mono ?_); intro e w3 h3; (obtain ⟨x, y, rfl⟩ := T.out e w3 h3); clear cx))
  exact h3
set_option maxRecDepth 100000 in
theorem Binary_k2 (W : World) (hb : Nat) (op : ByteArray) (a b : Nat) (kf : Nat) (eg : ∀ args w, (callFunc kf args).run Tryz.prog w = .ok (.enter kf args) w) (P : World → Nat → Prop) (hP : ∀ w w' cp, P w cp → Below w.heap.size w w' → P w' cp) (vr : Value) (rs : List Nat) (hr : WordsAt W vr rs) (hl : rs.length ≤ 999000) (k0 i0 b0 r0 : Int) (s0 : ByteArray) (k1 i1 b1 r1 : Int) (s1 : ByteArray) (lt0 : a < 18446744073709551616) (lt1 : b < 18446744073709551616)
    (cbin : Calls Tryz.prog 48 #[.string op] W fun e w' => ∃ cp cq, e = .returned (.func (.func kf) #[] #[.pointer (some ⟨cp, 0, none⟩), .pointer (some ⟨cq, 0, none⟩)]) ∧ P w' cp ∧ Below W.heap.size W w')
    (cu0 : ∀ w', Below W.heap.size W w' → Calls Tryz.prog 14 #[.pointer (some ⟨hb, 0, none⟩), .int .u64 (a : Nat)] w' fun e w'' => e = .returned (.tuple #[.agg #[.int .i64 k0, .int .i64 i0, .int .u64 b0, .string s0, .int .u64 r0], .int .i64 0]) ∧ Below w'.heap.size w' w'') (cu1 : ∀ w', Below W.heap.size W w' → Calls Tryz.prog 14 #[.pointer (some ⟨hb, 0, none⟩), .int .u64 (b : Nat)] w' fun e w'' => e = .returned (.tuple #[.agg #[.int .i64 k1, .int .i64 i1, .int .u64 b1, .string s1, .int .u64 r1], .int .i64 0]) ∧ Below w'.heap.size w' w'')
    {R : Ending → World → Prop} (two : ∀ e w', R e w' → ∃ x y, e = .returned (.tuple #[.int .u64 x, .int .i64 y]))
    (cj : ∀ (w' : World) (cp cq wb vb : Nat) (vr' : Value), Below W.heap.size W w' → P w' cp → w'.cell? ⟨wb, 0, none⟩ = some (.int .u64 (a : Nat)) → w'.cell? ⟨wb, 1, none⟩ = some (.int .u64 (b : Nat)) → (∀ j, w'.cell? ⟨vb, j, none⟩ = #[.int .i64 k0, .int .i64 i0, .int .u64 b0, .string s0, .int .u64 r0, .int .i64 k1, .int .i64 i1, .int .u64 b1, .string s1, .int .u64 r1][j]?) → WordsAt w' vr' (rs ++ [a, b]) → Calls Tryz.prog kf #[.agg #[.pointer (some ⟨hb, 0, none⟩), .slice (some ⟨wb, 0, none⟩) 2 2, .slice (some ⟨vb, 0, none⟩) 2 2, vr'], .pointer (some ⟨cp, 0, none⟩), .pointer (some ⟨cq, 0, none⟩)] w' R) :
    Calls Tryz.prog 16 #[.pointer (some ⟨hb, 0, none⟩), .string op, .int .u64 (a : Nat), .int .u64 (b : Nat), vr] W R := by
  obtain ⟨o1, cap1, hvr, -⟩ := id hr
  subst hvr
  have cd : ∀ (W1 : World) (cp cq : Nat), Below W.heap.size W W1 → P W1 cp → Calls Tryz.prog 13 #[.pointer (some ⟨hb, 0, none⟩), .func (.func kf) #[] #[.pointer (some ⟨cp, 0, none⟩), .pointer (some ⟨cq, 0, none⟩)], .slice (some ⟨W1.heap.size, 0, none⟩) 2 2, .slice o1 rs.length cap1] (W1.alloc (.cells #[.int .u64 (a : Nat), .int .u64 (b : Nat)] 22)) R := by
    intro W1 cp cq hB hc
    have hB1 : Below W1.heap.size W1 (W1.alloc (.cells #[.int .u64 (a : Nat), .int .u64 (b : Nat)] 22)) := (Below.refl _ W1).alloc (Nat.le_refl _) _
    have e1 := World.cell?_alloc_new W1 #[.int .u64 (a : Nat), .int .u64 (b : Nat)] 22
    have hB2 := hB.trans (hB1.mono hB.size)
    refine done2_k2 _ hb W1.heap.size a b kf eg cp cq _ rs (words_below hr hB2) hl k0 i0 b0 r0 s0 k1 i1 b1 r1 s1 (e1 0) (e1 1) lt0 lt1 (fun w' h => cu0 w' (hB2.trans (h.mono hB2.size))) (fun w' h => cu1 w' (hB2.trans (h.mono hB2.size))) two (fun w' vb vr' h hv hw => cj w' cp cq W1.heap.size vb vr' (hB2.trans (h.mono hB2.size)) (hP _ _ _ (hP _ _ _ hc hB1) h) (cell_keep h (e1 0)) (cell_keep h (e1 1)) hv hw)
  have T := hid two
  clear two cj hr hP cu0 cu1 eg hl lt0 lt1
  have heq := fn_eql
  go_enter Tryz.func16, Tryz.ntmps16
  go_wp2_with (first | (go_at_call 48; (with_reducible refine cbin.mono ?_); rintro e W1 ⟨cp, cq, rfl, hc, hB⟩; (replace cd := cd _ cp cq hB hc); clear cbin hB hc) | (go_at_call 13; (with_reducible refine cd.mono ?_); intro e w3 h3; (obtain ⟨x, y, rfl⟩ := T.out e w3 h3); clear cd))
  exact h3
theorem swapped_c (g : Nat) (W : World) : Calls Tryz.prog 149 #[.func (.func g) #[] #[]] W fun e w' => e = .returned (.func (.func 201) #[] #[.pointer (some ⟨W.heap.size, 0, none⟩)]) ∧ w'.cell? ⟨W.heap.size, 0, none⟩ = some (.func (.func g) #[] #[]) ∧ Below W.heap.size W w' := by
  have hB : Below W.heap.size W (W.alloc (.cells #[.func (.func g) #[] #[]] 174)) := (Below.refl _ W).alloc (Nat.le_refl _) _
  have hc : (W.alloc (.cells #[.func (.func g) #[] #[]] 174)).cell? ⟨W.heap.size, 0, none⟩ = some (.func (.func g) #[] #[]) := by rw [World.cell?_alloc_new]; rfl
  have H := hid (And.intro hc hB)
  clear hc hB
  go_enter Tryz.func149, Tryz.ntmps149
  go_wp2
  go_ret
  exact ⟨rfl, H.out⟩
theorem orders_c (g h : Nat) (cs : Array Value) (W : World) : Calls Tryz.prog 144 #[.func (.func g) #[] cs, .func (.func h) #[] #[]] W fun e w' => ∃ cp cq, e = .returned (.func (.func 198) #[] #[.pointer (some ⟨cp, 0, none⟩), .pointer (some ⟨cq, 0, none⟩)]) ∧ w'.cell? ⟨cp, 0, none⟩ = some (.func (.func g) #[] cs) ∧ Below W.heap.size W w' := by
  have hB1 : Below W.heap.size W (W.alloc (.cells #[.func (.func g) #[] cs] 174)) := (Below.refl _ W).alloc (Nat.le_refl _) _
  have hB : Below W.heap.size W ((W.alloc (.cells #[.func (.func g) #[] cs] 174)).alloc (.cells #[.func (.func h) #[] #[]] 149)) := hB1.alloc (by rw [World.size_alloc]; omega) _
  have hc : ((W.alloc (.cells #[.func (.func g) #[] cs] 174)).alloc (.cells #[.func (.func h) #[] #[]] 149)).cell? ⟨W.heap.size, 0, none⟩ = some (.func (.func g) #[] cs) := cell_keep ((Below.refl _ _).alloc (Nat.le_refl _) _) (by rw [World.cell?_alloc_new]; rfl)
  have H := hid (And.intro hc hB)
  clear hc hB hB1
  go_enter Tryz.func144, Tryz.ntmps144
  go_wp2
  go_ret
  exact ⟨_, _, rfl, H.out⟩
theorem swapped1_g (W : World) (cs g : Nat) (eg : ∀ args w, (callFunc g args).run Tryz.prog w = .ok (.enter g args) w) (hc : W.cell? ⟨cs, 0, none⟩ = some (.func (.func g) #[] #[])) (a0 a1 r : Bool) (x0 y0 x1 y1 : Int)
    (cg : ∀ w, Calls Tryz.prog g #[.agg #[.bool a1, .int .i64 x1, .int .u64 y1], .agg #[.bool a0, .int .i64 x0, .int .u64 y0]] w fun e w' => e = .returned (.bool r) ∧ Gr w w') :
    Calls Tryz.prog 201 #[.agg #[.bool a0, .int .i64 x0, .int .u64 y0], .agg #[.bool a1, .int .i64 x1, .int .u64 y1], .pointer (some ⟨cs, 0, none⟩)] W fun e w' => e = .returned (.bool r) ∧ Below W.heap.size W w' := by
  have hB : Below W.heap.size W ((W.alloc (.cells #[.bool a0, .int .i64 x0, .int .u64 y0] 24)).alloc (.cells #[.bool a1, .int .i64 x1, .int .u64 y1] 24)) := ((Below.refl _ W).alloc (Nat.le_refl _) _).alloc (by rw [World.size_alloc]; omega) _
  obtain ⟨fA, fB, -⟩ := (Gr.refl ((W.alloc (.cells #[.bool a0, .int .i64 x0, .int .u64 y0] 24)).alloc (.cells #[.bool a1, .int .i64 x1, .int .u64 y1] 24))).two (Nat.zero_lt_succ _) (Nat.zero_lt_succ _)
  replace hc := cell_keep hB hc
  have HB := hid hB
  clear hB
  go_enter Tryz.func201, Tryz.ntmps201
  go_wp2_with (go_at_fn g; (with_reducible refine (cg _).mono ?_); rintro e w2 ⟨rfl, hg⟩; (have hB2 := hid hg.below); clear cg hg)
  go_ret
  exact ⟨rfl, HB.out.trans (hB2.out.mono HB.out.size)⟩
section
variable {W : World} {hb vb : Nat} {vw vr : Value}
set_option maxRecDepth 100000 in
theorem orders1_g (cp cq g : Nat) (eg : ∀ args w, (callFunc g args).run Tryz.prog w = .ok (.enter g args) w) (hc : W.cell? ⟨cp, 0, none⟩ = some (.func (.func g) #[] #[])) (a0 a1 r : Bool) (x0 y0 x1 y1 : Int)
    (cn : ∀ w', Below W.heap.size W w' → Calls Tryz.prog 123 #[.agg #[.pointer (some ⟨hb, 0, none⟩), vw, .slice (some ⟨vb, 0, none⟩) 2 2, vr]] w' fun e w'' => e = .returned (.tuple #[.agg #[.bool a0, .int .i64 x0, .int .u64 y0], .agg #[.bool a1, .int .i64 x1, .int .u64 y1], .bool true]) ∧ Gr w' w'')
    (cg : ∀ w', Below W.heap.size W w' → Calls Tryz.prog g #[.agg #[.bool a0, .int .i64 x0, .int .u64 y0], .agg #[.bool a1, .int .i64 x1, .int .u64 y1]] w' fun e w'' => e = .returned (.bool r) ∧ Below w'.heap.size w' w'') :
    Calls Tryz.prog 198 #[.agg #[.pointer (some ⟨hb, 0, none⟩), vw, .slice (some ⟨vb, 0, none⟩) 2 2, vr], .pointer (some ⟨cp, 0, none⟩), .pointer (some ⟨cq, 0, none⟩)] W fun e w' => e = .returned (.tuple #[.int .u64 (boolW r), .int .i64 0]) ∧ Below W.heap.size W w' := by
  have hB1 : Below W.heap.size W (W.alloc (.cells #[.pointer (some ⟨hb, 0, none⟩), vw, .slice (some ⟨vb, 0, none⟩) 2 2, vr] 80)) := (Below.refl _ W).alloc (Nat.le_refl _) _
  have e1 := World.cell?_alloc_new W #[.pointer (some ⟨hb, 0, none⟩), vw, .slice (some ⟨vb, 0, none⟩) 2 2, vr] 80
  have H1 := hid hB1
  have c1 := cn _ hB1
  clear cn
  replace hc := cell_keep hB1 hc
  clear hB1
  go_enter Tryz.func198, Tryz.ntmps198
  go_upto_region 1 with fail
  generalize W.alloc (.cells #[.pointer (some ⟨hb, 0, none⟩), vw, .slice (some ⟨vb, 0, none⟩) 2 2, vr] 80) = W1 at *
  go_upto_region 2 with (go_at_call 123; (with_reducible refine c1.mono ?_); rintro e W2 ⟨rfl, hg⟩; clear c1)
  have hB2 := hg.below
  have hB3 : Below W2.heap.size W2 ((W2.alloc (.cells #[.bool a0, .int .i64 x0, .int .u64 y0] 24)).alloc (.cells #[.bool a1, .int .i64 x1, .int .u64 y1] 24)) := ((Below.refl _ W2).alloc (Nat.le_refl _) _).alloc (by rw [World.size_alloc]; omega) _
  obtain ⟨fA, fB, -⟩ := (Gr.refl ((W2.alloc (.cells #[.bool a0, .int .i64 x0, .int .u64 y0] 24)).alloc (.cells #[.bool a1, .int .i64 x1, .int .u64 y1] 24))).two (Nat.zero_lt_succ _) (Nat.zero_lt_succ _)
  have hB4 := hB2.trans (hB3.mono hB2.size)
  replace H1 := hid (H1.out.trans (hB4.mono H1.out.size))
  replace hc := cell_keep hB4 hc
  have cx := cg _ H1.out
  clear cg
  clear hg hB2 hB3 hB4 e1
  generalize W2.heap.size + 1 = bB at *
  generalize W2.heap.size = bA at *
  generalize ((W2.alloc (.cells #[.bool a0, .int .i64 x0, .int .u64 y0] 24)).alloc (.cells #[.bool a1, .int .i64 x1, .int .u64 y1] 24)) = W3 at *
  go_wp2_with (first | (go_at_fn g; (with_reducible refine cx.mono ?_); rintro e W4 ⟨rfl, hB5⟩; (replace hB5 := hid hB5); clear cx) | (go_at_call 20; (with_reducible refine (fromBool_c _ _).mono ?_); rintro e w' ⟨rfl, hw⟩; (have hw' := hw.symm); subst hw'; clear hw))
  go_ret2
  exact ⟨rfl, H1.out.trans (hB5.out.mono H1.out.size)⟩
set_option maxRecDepth 100000 in
theorem orders1_s (cp cq g : Nat) (cs : Nat) (eg : ∀ args w, (callFunc g args).run Tryz.prog w = .ok (.enter g args) w) (hc : W.cell? ⟨cp, 0, none⟩ = some (.func (.func g) #[] #[.pointer (some ⟨cs, 0, none⟩)])) (a0 a1 r : Bool) (x0 y0 x1 y1 : Int)
    (cn : ∀ w', Below W.heap.size W w' → Calls Tryz.prog 123 #[.agg #[.pointer (some ⟨hb, 0, none⟩), vw, .slice (some ⟨vb, 0, none⟩) 2 2, vr]] w' fun e w'' => e = .returned (.tuple #[.agg #[.bool a0, .int .i64 x0, .int .u64 y0], .agg #[.bool a1, .int .i64 x1, .int .u64 y1], .bool true]) ∧ Gr w' w'')
    (cg : ∀ w', Below W.heap.size W w' → Calls Tryz.prog g #[.agg #[.bool a0, .int .i64 x0, .int .u64 y0], .agg #[.bool a1, .int .i64 x1, .int .u64 y1], .pointer (some ⟨cs, 0, none⟩)] w' fun e w'' => e = .returned (.bool r) ∧ Below w'.heap.size w' w'') :
    Calls Tryz.prog 198 #[.agg #[.pointer (some ⟨hb, 0, none⟩), vw, .slice (some ⟨vb, 0, none⟩) 2 2, vr], .pointer (some ⟨cp, 0, none⟩), .pointer (some ⟨cq, 0, none⟩)] W fun e w' => e = .returned (.tuple #[.int .u64 (boolW r), .int .i64 0]) ∧ Below W.heap.size W w' := by
  have hB1 : Below W.heap.size W (W.alloc (.cells #[.pointer (some ⟨hb, 0, none⟩), vw, .slice (some ⟨vb, 0, none⟩) 2 2, vr] 80)) := (Below.refl _ W).alloc (Nat.le_refl _) _
  have e1 := World.cell?_alloc_new W #[.pointer (some ⟨hb, 0, none⟩), vw, .slice (some ⟨vb, 0, none⟩) 2 2, vr] 80
  have H1 := hid hB1
  have c1 := cn _ hB1
  clear cn
  replace hc := cell_keep hB1 hc
  clear hB1
  go_enter Tryz.func198, Tryz.ntmps198
  go_upto_region 1 with fail
  generalize W.alloc (.cells #[.pointer (some ⟨hb, 0, none⟩), vw, .slice (some ⟨vb, 0, none⟩) 2 2, vr] 80) = W1 at *
  go_upto_region 2 with (go_at_call 123; (with_reducible refine c1.mono ?_); rintro e W2 ⟨rfl, hg⟩; clear c1)
  have hB2 := hg.below
  have hB3 : Below W2.heap.size W2 ((W2.alloc (.cells #[.bool a0, .int .i64 x0, .int .u64 y0] 24)).alloc (.cells #[.bool a1, .int .i64 x1, .int .u64 y1] 24)) := ((Below.refl _ W2).alloc (Nat.le_refl _) _).alloc (by rw [World.size_alloc]; omega) _
  obtain ⟨fA, fB, -⟩ := (Gr.refl ((W2.alloc (.cells #[.bool a0, .int .i64 x0, .int .u64 y0] 24)).alloc (.cells #[.bool a1, .int .i64 x1, .int .u64 y1] 24))).two (Nat.zero_lt_succ _) (Nat.zero_lt_succ _)
  have hB4 := hB2.trans (hB3.mono hB2.size)
  replace H1 := hid (H1.out.trans (hB4.mono H1.out.size))
  replace hc := cell_keep hB4 hc
  have cx := cg _ H1.out
  clear cg
  clear hg hB2 hB3 hB4 e1
  generalize W2.heap.size + 1 = bB at *
  generalize W2.heap.size = bA at *
  generalize ((W2.alloc (.cells #[.bool a0, .int .i64 x0, .int .u64 y0] 24)).alloc (.cells #[.bool a1, .int .i64 x1, .int .u64 y1] 24)) = W3 at *
  go_wp2_with (first | (go_at_fn g; (with_reducible refine cx.mono ?_); rintro e W4 ⟨rfl, hB5⟩; (replace hB5 := hid hB5); clear cx) | (go_at_call 20; (with_reducible refine (fromBool_c _ _).mono ?_); rintro e w' ⟨rfl, hw⟩; (have hw' := hw.symm); subst hw'; clear hw))
  go_ret2
  exact ⟨rfl, H1.out.trans (hB5.out.mono H1.out.size)⟩
set_option maxRecDepth 100000 in
theorem same_g (a0 a1 r : Bool) (x0 y0 x1 y1 : Int)
    (cn : ∀ w', Below W.heap.size W w' → Calls Tryz.prog 123 #[.agg #[.pointer (some ⟨hb, 0, none⟩), vw, .slice (some ⟨vb, 0, none⟩) 2 2, vr]] w' fun e w'' => e = .returned (.tuple #[.agg #[.bool a0, .int .i64 x0, .int .u64 y0], .agg #[.bool a1, .int .i64 x1, .int .u64 y1], .bool true]) ∧ Gr w' w'')
    (cg : ∀ w', Calls Tryz.prog 195 #[.agg #[.bool a0, .int .i64 x0, .int .u64 y0], .agg #[.bool a1, .int .i64 x1, .int .u64 y1]] w' fun e w'' => e = .returned (.bool r) ∧ Gr w' w'') :
    Calls Tryz.prog 137 #[.agg #[.pointer (some ⟨hb, 0, none⟩), vw, .slice (some ⟨vb, 0, none⟩) 2 2, vr]] W fun e w' => e = .returned (.tuple #[.bool r, .int .i64 0]) ∧ Below W.heap.size W w' := by
  have hB1 : Below W.heap.size W (W.alloc (.cells #[.pointer (some ⟨hb, 0, none⟩), vw, .slice (some ⟨vb, 0, none⟩) 2 2, vr] 80)) := (Below.refl _ W).alloc (Nat.le_refl _) _
  have e1 := World.cell?_alloc_new W #[.pointer (some ⟨hb, 0, none⟩), vw, .slice (some ⟨vb, 0, none⟩) 2 2, vr] 80
  have H1 := hid hB1
  have c1 := cn _ hB1
  clear cn
  clear hB1
  go_enter Tryz.func137, Tryz.ntmps137
  go_upto_region 1 with fail
  generalize W.alloc (.cells #[.pointer (some ⟨hb, 0, none⟩), vw, .slice (some ⟨vb, 0, none⟩) 2 2, vr] 80) = W1 at *
  go_upto_region 2 with (go_at_call 123; (with_reducible refine c1.mono ?_); rintro e W2 ⟨rfl, hg⟩; clear c1)
  have hB2 := hg.below
  have hB3 : Below W2.heap.size W2 ((W2.alloc (.cells #[.bool a0, .int .i64 x0, .int .u64 y0] 24)).alloc (.cells #[.bool a1, .int .i64 x1, .int .u64 y1] 24)) := ((Below.refl _ W2).alloc (Nat.le_refl _) _).alloc (by rw [World.size_alloc]; omega) _
  obtain ⟨fA, fB, -⟩ := (Gr.refl ((W2.alloc (.cells #[.bool a0, .int .i64 x0, .int .u64 y0] 24)).alloc (.cells #[.bool a1, .int .i64 x1, .int .u64 y1] 24))).two (Nat.zero_lt_succ _) (Nat.zero_lt_succ _)
  have hB4 := hB2.trans (hB3.mono hB2.size)
  replace H1 := hid (H1.out.trans (hB4.mono H1.out.size))
  clear hg hB2 hB3 hB4 e1
  generalize W2.heap.size + 1 = bB at *
  generalize W2.heap.size = bA at *
  generalize ((W2.alloc (.cells #[.bool a0, .int .i64 x0, .int .u64 y0] 24)).alloc (.cells #[.bool a1, .int .i64 x1, .int .u64 y1] 24)) = W3 at *
  go_wp2_with (go_at_call 195; (with_reducible refine (cg _).mono ?_); rintro e W4 ⟨rfl, hg5⟩; (have hB5 := hid hg5.below); clear cg hg5)
  go_ret2
  exact ⟨rfl, H1.out.trans (hB5.out.mono H1.out.size)⟩
set_option maxRecDepth 100000 in
theorem equates1_g (cp : Nat) (ask r : Bool) (hc : W.cell? ⟨cp, 0, none⟩ = some (.bool ask))
    (cs : ∀ w', Below W.heap.size W w' → Calls Tryz.prog 137 #[.agg #[.pointer (some ⟨hb, 0, none⟩), vw, .slice (some ⟨vb, 0, none⟩) 2 2, vr]] w' fun e w'' => e = .returned (.tuple #[.bool r, .int .i64 0]) ∧ Below w'.heap.size w' w'') :
    Calls Tryz.prog 136 #[.agg #[.pointer (some ⟨hb, 0, none⟩), vw, .slice (some ⟨vb, 0, none⟩) 2 2, vr], .pointer (some ⟨cp, 0, none⟩)] W fun e w' => e = .returned (.tuple #[.int .u64 (boolW (r == ask)), .int .i64 0]) ∧ Below W.heap.size W w' := by
  have hB1 : Below W.heap.size W (W.alloc (.cells #[.pointer (some ⟨hb, 0, none⟩), vw, .slice (some ⟨vb, 0, none⟩) 2 2, vr] 80)) := (Below.refl _ W).alloc (Nat.le_refl _) _
  have H1 := hid hB1
  have c1 := cs _ hB1
  replace hc := cell_keep hB1 hc
  clear cs hB1
  go_enter Tryz.func136, Tryz.ntmps136
  go_upto_region 1 with fail
  have e1 := World.cell?_alloc_new W #[.pointer (some ⟨hb, 0, none⟩), vw, .slice (some ⟨vb, 0, none⟩) 2 2, vr] 80
  generalize W.alloc (.cells #[.pointer (some ⟨hb, 0, none⟩), vw, .slice (some ⟨vb, 0, none⟩) 2 2, vr] 80) = W1 at *
  go_upto_region 2 with (go_at_call 137; (with_reducible refine c1.mono ?_); rintro e W2 ⟨rfl, hB2⟩; (replace hc := cell_keep hB2 hc); (replace hB2 := hid hB2); clear c1)
  clear e1
  go_wp2_with (go_at_call 20; (with_reducible refine (fromBool_c _ _).mono ?_); rintro e w' ⟨rfl, hw⟩; (have hw' := hw.symm); subst hw'; clear hw)
  go_ret2
  exact ⟨rfl, H1.out.trans (hB2.out.mono H1.out.size)⟩
end
end Go.Proofs.YtdncdddaobemaaaGreatDoor.W.Nu
