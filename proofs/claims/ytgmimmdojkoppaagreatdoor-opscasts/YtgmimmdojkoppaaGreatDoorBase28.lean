import Derived.Test.YtgmimmdojkoppaaGreatDoorBase25
import Derived.Test.YtgmimmdojkoppaaGreatDoorBase26
/- Plain facts on words of IEEE 754: a number is written as its nearest word whatever its spelling; what a format has is written as it was read; words compare by the exact numbers that they are. -/
namespace Go.Proofs.YtgmimmdojkoppaaGreatDoor.W.Nu
open Ieee

/-- a quotient rounded to the nearest whole number, between two the even one -/
def cutE (n g : Nat) : Nat := n / g + (if g < 2 * (n % g) ∨ (g = 2 * (n % g) ∧ n / g % 2 = 1) then 1 else 0)

theorem gap_low (n d : Nat) (h : n.log2 + 2 < d) : n < 2 ^ (n.log2 + 2) ∧ 2 * n < 2 ^ (n.log2 + 2) ∧ 2 ^ (n.log2 + 2) < 2 ^ d := by
  have h1 : n < 2 ^ (n.log2 + 1) := Nat.lt_log2_self
  have h2 : 2 ^ (n.log2 + 2) = 2 * 2 ^ (n.log2 + 1) := by rw [show n.log2 + 2 = n.log2 + 1 + 1 from rfl, Nat.pow_succ]; omega
  have h3 : 2 ^ (n.log2 + 2) < 2 ^ d := Nat.pow_lt_pow_right (by omega) h
  omega

theorem toNat_if {b : Bool} {p : Prop} [Decidable p] (h : b = true ↔ p) : b.toNat = if p then 1 else 0 := by
  cases b <;> by_cases hp : p <;> simp_all
theorem cut_even (s : Bool) (n d : Nat) : Toward.even.cut s n d = cutE n (2 ^ d) := by
  unfold Toward.cut cutE
  simp only [Nat.one_shiftLeft]
  by_cases h : d ≤ n.log2 + 2
  · rw [Nat.min_eq_left h]
    congr 1
    generalize 2 ^ d = g
    exact toNat_if (by simp)
  · rw [Nat.min_eq_right (by omega)]
    obtain ⟨h1, h2, h3⟩ := gap_low n d (by omega)
    have h4 : n < 2 ^ d := by omega
    rw [Nat.div_eq_of_lt h1, Nat.mod_eq_of_lt h1, Nat.div_eq_of_lt h4, Nat.mod_eq_of_lt h4, if_neg (by omega)]
    have e : decide (2 ^ (n.log2 + 2) < 2 * n) = false := by simp; omega
    simp [e]
theorem cut_zero (s : Bool) (n d : Nat) : Toward.zero.cut s n d = n / 2 ^ d := by
  unfold Toward.cut
  simp only [Nat.one_shiftLeft]
  by_cases h : d ≤ n.log2 + 2
  · rw [Nat.min_eq_left h]; simp
  · rw [Nat.min_eq_right (by omega)]
    obtain ⟨h1, h2, h3⟩ := gap_low n d (by omega)
    rw [Nat.div_eq_of_lt h1, Nat.div_eq_of_lt (by omega)]
    simp

theorem cutE_mul (n g c : Nat) (hc : 0 < c) : cutE (n * c) (g * c) = cutE n g := by
  unfold cutE
  rw [Nat.mul_div_mul_right n g hc, Nat.mul_mod_mul_right]
  congr 1
  have e : 2 * (n % g * c) = 2 * (n % g) * c := by rw [Nat.mul_assoc]
  rw [e]
  have h1 : (g * c < 2 * (n % g) * c) = (g < 2 * (n % g)) := propext (Nat.mul_lt_mul_right hc)
  have h2 : (g * c = 2 * (n % g) * c) = (g = 2 * (n % g)) := propext (Nat.mul_left_inj (by omega))
  simp only [h1, h2]
theorem cutE_one (n : Nat) : cutE n 1 = n := by
  unfold cutE
  simp [Nat.mod_one]
theorem cutE_move (m a b a' b' : Nat) (h : a' + b = a + b') : cutE (m * 2 ^ a') (2 ^ b') = cutE (m * 2 ^ a) (2 ^ b) := by
  rw [← cutE_mul (m * 2 ^ a') (2 ^ b') (2 ^ b) (Nat.two_pow_pos _), ← cutE_mul (m * 2 ^ a) (2 ^ b) (2 ^ b') (Nat.two_pow_pos _)]
  rw [Nat.mul_assoc, Nat.mul_assoc, ← Nat.pow_add, ← Nat.pow_add, ← Nat.pow_add, ← Nat.pow_add, h, Nat.add_comm b' b]

theorem log2_shift (m k : Nat) (h : m ≠ 0) : (m * 2 ^ k).log2 = m.log2 + k := by
  induction k with
  | zero => simp
  | succ k ih =>
    rw [Nat.pow_succ, ← Nat.mul_assoc, Nat.mul_comm _ 2, Nat.log2_two_mul (Nat.mul_ne_zero h (Nat.ne_of_gt (Nat.two_pow_pos k))), ih]
    omega

theorem nearest_shift (f : Format) (s : Bool) (m k : Nat) (p : Int) : f.nearest s (m * 2 ^ k) (p - k) = f.nearest s m p := by
  unfold Format.nearest
  by_cases h : m = 0
  · subst h; simp
  · have h' : m * 2 ^ k ≠ 0 := Nat.mul_ne_zero h (Nat.ne_of_gt (Nat.two_pow_pos k))
    rw [if_neg h', if_neg h, log2_shift m k h]
    have e : p - (k : Int) + ((m.log2 + k : Nat) : Int) - f.fractionBits = p + (m.log2 : Nat) - f.fractionBits := by omega
    simp only [e]
    generalize max (p + (m.log2 : Nat) - f.fractionBits) f.leastPlace = L
    rw [cut_even, cut_even, Nat.shiftLeft_eq, Nat.shiftLeft_eq, Nat.mul_assoc, ← Nat.pow_add]
    rw [cutE_move m (p - L).toNat (L - p).toNat (k + (p - k - L).toNat) (L - (p - k)).toNat (by omega)]
theorem nearest_same (f : Format) (s : Bool) (m m' : Nat) (p p' b : Int) (h1 : b ≤ p) (h2 : b ≤ p') (h : m * 2 ^ (p - b).toNat = m' * 2 ^ (p' - b).toNat) :
    f.nearest s m p = f.nearest s m' p' := by
  rw [← nearest_shift f s m (p - b).toNat p, ← nearest_shift f s m' (p' - b).toNat p', h]
  congr 1
  omega

/-! ### what a word reads as, written again -/
theorem read_number {x : Nat} {s : Bool} {m : Nat} {p : Int} (hx : x < 18446744073709551616) (h : Ieee.double.read x = .number s m p) :
    m < 9007199254740992 ∧ -1074 ≤ p ∧ p ≤ 971 ∧ (4503599627370496 ≤ m ∨ p = -1074) ∧ x = (if s then 9223372036854775808 else 0) + ((p + 1074).toNat * 4503599627370496 + m) := by
  rw [read_eq] at h
  have hs : (if (x / 9223372036854775808 % 2 == 1) = true then 9223372036854775808 else 0) = x / 9223372036854775808 * 9223372036854775808 := by
    by_cases g : x / 9223372036854775808 % 2 = 1
    · simp [g]; omega
    · simp [g]; omega
  split at h
  · cases h
    refine ⟨by omega, by omega, by omega, Or.inr rfl, ?_⟩
    rw [hs]; omega
  · split at h
    · cases h
      refine ⟨by omega, by omega, by omega, Or.inl (by omega), ?_⟩
      rw [hs]; omega
    · split at h <;> cases h

theorem write_read {x : Nat} {s : Bool} {m : Nat} {p : Int} (hx : x < 18446744073709551616) (h : Ieee.double.read x = .number s m p) : Ieee.double.nearest s m p = x := by
  obtain ⟨h1, h2, h3, h4, h5⟩ := read_number hx h
  unfold Format.nearest
  by_cases h0 : m = 0
  · subst h0
    rw [if_pos rfl, word_eq, h5]
    have : p = -1074 := by omega
    subst this
    simp
  · rw [if_neg h0]
    have hl : m.log2 ≤ 52 := by
      have : m.log2 < 53 := (Nat.log2_lt h0).2 (by omega)
      omega
    have hL : max (p + (m.log2 : Nat) - ((Ieee.double.fractionBits : Nat) : Int)) Ieee.double.leastPlace = p := by
      rw [D_least]
      show max (p + (m.log2 : Nat) - 52) (-1074) = p
      rcases h4 with h4 | h4
      · have : 52 ≤ m.log2 := (Nat.le_log2 h0).2 (by omega)
        omega
      · omega
    simp only [hL]
    rw [cut_even]
    simp only [Int.sub_self, Int.toNat_zero, Nat.shiftLeft_zero, Nat.pow_zero, cutE_one, D_least, D_bin, D_inf, word_eq]
    rw [h5, show p - -1074 = p + 1074 from by omega, Nat.min_eq_left (by omega)]
theorem write_inf {x : Nat} {s : Bool} (hx : x < 18446744073709551616) (h : Ieee.double.read x = .infinity s) : Ieee.double.write (.infinity s) = x := by
  have e : Ieee.double.write (.infinity s) = Ieee.double.word s Ieee.double.infRung := rfl
  rw [e, word_eq, D_inf]
  rw [read_eq] at h
  split at h
  · cases h
  · split at h
    · cases h
    · split at h
      · rename_i h1 h2 h3
        cases h
        by_cases g : x / 9223372036854775808 % 2 = 1
        · simp [g]; omega
        · simp [g]; omega
      · cases h

/-- a number of at most 53 digits, within the format's places, is read as it was written -/
theorem read_nearest (s : Bool) (m : Nat) (p : Int) (hm : m < 9007199254740992) (h1 : -1074 ≤ p) (h2 : p ≤ 971) :
    ∃ m' p', Ieee.double.read (Ieee.double.nearest s m p) = .number s m' p' ∧ -1074 ≤ p' ∧ p' ≤ p ∧ m' = m * 2 ^ (p - p').toNat := by
  have hsg : ∀ r, r < 9223372036854775808 → (((if s = true then 9223372036854775808 else 0) + r) / 9223372036854775808 % 2 == 1) = s ∧ ((if s = true then 9223372036854775808 else 0) + r) % 9223372036854775808 = r := by
    intro r hr
    cases s
    · simp; omega
    · simp; omega
  unfold Format.nearest
  by_cases h0 : m = 0
  · subst h0
    rw [if_pos rfl, word_eq, read_eq, (hsg 0 (by omega)).1, (hsg 0 (by omega)).2, if_pos (by omega)]
    exact ⟨0, -1074, rfl, by omega, by omega, by simp⟩
  · rw [if_neg h0]
    have hl : m.log2 ≤ 52 := by
      have : m.log2 < 53 := (Nat.log2_lt h0).2 (by omega)
      omega
    have hlo : 2 ^ m.log2 ≤ m := Nat.log2_self_le h0
    have hhi : m < 2 ^ (m.log2 + 1) := Nat.lt_log2_self
    have eL : max (p + (m.log2 : Nat) - ((Ieee.double.fractionBits : Nat) : Int)) Ieee.double.leastPlace = max (p + (m.log2 : Nat) - 52) (-1074) := by rw [D_least]; rfl
    simp only [eL]
    generalize hL : max (p + (m.log2 : Nat) - 52) (-1074) = L
    have hLp : L ≤ p := by omega
    have hL1 : -1074 ≤ L := by omega
    rw [cut_even, show (L - p).toNat = 0 from by omega, Nat.pow_zero, cutE_one, Nat.shiftLeft_eq, D_least, D_bin, D_inf, word_eq]
    -- K: the digits that are kept
    have hK2 : m * 2 ^ (p - L).toNat < 9007199254740992 := by
      have a1 : m * 2 ^ (p - L).toNat < 2 ^ (m.log2 + 1) * 2 ^ (p - L).toNat := Nat.mul_lt_mul_of_pos_right hhi (Nat.two_pow_pos _)
      rw [← Nat.pow_add] at a1
      have a2 : 2 ^ (m.log2 + 1 + (p - L).toNat) ≤ 2 ^ 53 := Nat.pow_le_pow_right (by omega) (by omega)
      omega
    have hK1 : L = -1074 ∨ 4503599627370496 ≤ m * 2 ^ (p - L).toNat := by
      by_cases g : L = -1074
      · exact Or.inl g
      · right
        have a1 : 2 ^ m.log2 * 2 ^ (p - L).toNat ≤ m * 2 ^ (p - L).toNat := Nat.mul_le_mul_right _ hlo
        rw [← Nat.pow_add, show m.log2 + (p - L).toNat = 52 from by omega] at a1
        omega
    generalize hK : m * 2 ^ (p - L).toNat = K at *
    have hmin : min ((L - -1074).toNat * 4503599627370496 + K) 9218868437227405312 = (L + 1074).toNat * 4503599627370496 + K := by
      rw [show L - -1074 = L + 1074 from by omega]
      exact Nat.min_eq_left (by omega)
    rw [hmin, read_eq, (hsg _ (by omega)).1, (hsg _ (by omega)).2]
    split
    · rename_i g
      refine ⟨_, _, rfl, by omega, by omega, ?_⟩
      have : L = -1074 := by omega
      subst this
      rw [hK]; omega
    · rename_i g
      rw [if_pos (by omega)]
      refine ⟨_, _, rfl, by omega, by omega, ?_⟩
      have e1 : (-1074 + ((((L + 1074).toNat * 4503599627370496 + K) / 4503599627370496 - 1 : Nat) : Int)) = L := by omega
      rw [e1, hK]
      omega

/-! ### words compare by the exact numbers -/
/-- beyond every finite double, in units of the least number's place -/
def bigOf (k : Nat) : Nat := 2 ^ k
theorem bigOf_pos (k : Nat) : 0 < bigOf k := Nat.two_pow_pos k
theorem bigOf_le {k n : Nat} (h : k ≤ n) : 2 ^ k ≤ bigOf n := Nat.pow_le_pow_right (by omega) h
def big : Nat := bigOf 2200
theorem big_pos : 0 < big := bigOf_pos 2200
theorem big_le {k : Nat} (h : k ≤ 2200) : 2 ^ k ≤ big := bigOf_le h
/-- the exact number of a datum, in units of the least number's place; infinities beyond all -/
def key : Datum → Int
  | .number s m p => signed s m (p + 1074).toNat
  | .infinity s => if s then -(big : Int) else (big : Int)
  | .nan _ _ => 0

theorem signed_eq (s : Bool) (m k : Nat) : signed s m k = (if s then -1 else 1) * ((m * 2 ^ k : Nat) : Int) := by
  unfold signed
  rw [Nat.shiftLeft_eq]
  cases s <;> simp
theorem signed_add (s : Bool) (m a c : Nat) : signed s m (a + c) = signed s m a * ((2 ^ c : Nat) : Int) := by
  rw [signed_eq, signed_eq, Int.mul_assoc, ← Int.natCast_mul, Nat.mul_assoc, ← Nat.pow_add]
theorem compare_mul (x y c : Int) (hc : 0 < c) : compare (x * c) (y * c) = compare x y := by
  have h1 : (x * c < y * c) = (x < y) := propext ⟨fun h => Int.lt_of_mul_lt_mul_right h (Int.le_of_lt hc), fun h => Int.mul_lt_mul_of_pos_right h hc⟩
  have h2 : (x * c = y * c) = (x = y) := propext ⟨fun h => Int.eq_of_mul_eq_mul_right (Int.ne_of_gt hc) h, fun h => by rw [h]⟩
  simp only [compare, compareOfLessAndEq, h1, h2]
theorem key_bound {x : Nat} {s : Bool} {m : Nat} {p : Int} (hx : x < 18446744073709551616) (h : Ieee.double.read x = .number s m p) :
    -(big : Int) < signed s m (p + 1074).toNat ∧ signed s m (p + 1074).toNat < (big : Int) := by
  obtain ⟨h1, h2, h3, -, -⟩ := read_number hx h
  have a1 : m * 2 ^ (p + 1074).toNat < 2 ^ 53 * 2 ^ (p + 1074).toNat := Nat.mul_lt_mul_of_pos_right (by omega) (Nat.two_pow_pos _)
  rw [← Nat.pow_add] at a1
  have a2 : 2 ^ (53 + (p + 1074).toNat) ≤ big := big_le (by omega)
  rw [signed_eq]
  generalize big = B at *
  generalize m * 2 ^ (p + 1074).toNat = V at *
  cases s <;> simp <;> omega
theorem order_key {x y : Nat} (hx : x < 18446744073709551616) (hy : y < 18446744073709551616) (nx : (Ieee.double.read x).isNaN = false) (ny : (Ieee.double.read y).isNaN = false) :
    Ieee.double.order x y = some (compare (key (Ieee.double.read x)) (key (Ieee.double.read y))) := by
  unfold Format.order
  cases ex : Ieee.double.read x with
  | nan s t => rw [ex] at nx; cases nx
  | infinity s =>
    cases ey : Ieee.double.read y with
    | nan s t => rw [ey] at ny; cases ny
    | infinity t =>
      have hB := big_pos
      simp only [Datum.order, key]
      generalize big = B at *
      cases s <;> cases t <;> simp [compare, compareOfLessAndEq] <;> (try omega)
      all_goals (repeat' split) <;> first | rfl | omega
    | number t n j =>
      obtain ⟨k1, k2⟩ := key_bound hy ey
      simp only [Datum.order, key]
      generalize big = B at *
      cases s
      · simp only [compare, compareOfLessAndEq, Bool.false_eq_true, if_false]
        rw [if_neg (by omega), if_neg (by omega)]
      · simp only [compare, compareOfLessAndEq, if_true]
        rw [if_pos (by omega)]
  | number s m i =>
    obtain ⟨k1, k2⟩ := key_bound hx ex
    obtain ⟨-, hi, -, -, -⟩ := read_number hx ex
    cases ey : Ieee.double.read y with
    | nan s t => rw [ey] at ny; cases ny
    | infinity t =>
      simp only [Datum.order, key]
      generalize big = B at *
      cases t
      · simp only [compare, compareOfLessAndEq, Bool.false_eq_true, if_false]
        rw [if_pos (by omega)]
      · simp only [compare, compareOfLessAndEq, if_true]
        rw [if_neg (by omega), if_neg (by omega)]
    | number t n j =>
      obtain ⟨-, hj, -, -, -⟩ := read_number hy ey
      simp only [Datum.order, key]
      have e1 : (i + 1074).toNat = (i - min i j).toNat + (min i j + 1074).toNat := by omega
      have e2 : (j + 1074).toNat = (j - min i j).toNat + (min i j + 1074).toNat := by omega
      rw [e1, e2, signed_add, signed_add, compare_mul _ _ _ (by have := Nat.two_pow_pos (min i j + 1074).toNat; omega)]
end Go.Proofs.YtgmimmdojkoppaaGreatDoor.W.Nu
/- Plain facts on words of IEEE 754 of 32 bits, and on their way to 64 bits and back. -/
namespace Go.Proofs.YtgmimmdojkoppaaGreatDoor.W.Nu
open Ieee

end Go.Proofs.YtgmimmdojkoppaaGreatDoor.W.Nu
/- Plain facts on what package soft answers: sums and products either way round, a difference is a sum, a sign twice turned; no NaN but one. -/
namespace Go.Proofs.YtgmimmdojkoppaaGreatDoor.W.Nu
open Ieee

theorem sum_comm (a b : Datum) : a.sum b = b.sum a := by
  cases a with
  | nan s t => cases b <;> rfl
  | infinity s =>
    cases b with
    | nan s t => rfl
    | infinity t => cases s <;> cases t <;> rfl
    | number t n j => rfl
  | number s m i =>
    cases b with
    | nan s t => rfl
    | infinity t => rfl
    | number t n j =>
      simp only [Datum.sum]
      rw [show min j i = min i j from by omega, Int.add_comm (signed s m _), Bool.and_comm s t]
theorem product_comm (a b : Datum) : a.product b = b.product a := by
  cases a with
  | nan s t => cases b <;> rfl
  | infinity s =>
    cases b with
    | nan s t => rfl
    | infinity t => simp only [Datum.product]; rw [Bool.xor_comm]
    | number t n j => rfl
  | number s m i =>
    cases b with
    | nan s t => rfl
    | infinity t => rfl
    | number t n j =>
      simp only [Datum.product]
      rw [Bool.xor_comm, Nat.mul_comm, Int.add_comm]
theorem add_comm (a b : Int) : opI .add a b = opI .add b a := by
  have e : floatBits .add .f64 a.toNat b.toNat = floatBits .add .f64 b.toNat a.toNat := by
    show ((Ieee.double.read a.toNat).sum (Ieee.double.read b.toNat)).map Ieee.double.write = ((Ieee.double.read b.toNat).sum (Ieee.double.read a.toNat)).map Ieee.double.write
    rw [sum_comm]
  unfold opI; rw [e]
theorem mul_comm (a b : Int) : opI .mul a b = opI .mul b a := by
  have e : floatBits .mul .f64 a.toNat b.toNat = floatBits .mul .f64 b.toNat a.toNat := by
    show ((Ieee.double.read a.toNat).product (Ieee.double.read b.toNat)).map Ieee.double.write = ((Ieee.double.read b.toNat).product (Ieee.double.read a.toNat)).map Ieee.double.write
    rw [product_comm]
  unfold opI; rw [e]
theorem sum_nan (a b : Datum) (h : b.isNaN = true) : a.sum b = none := by
  cases b with
  | nan s t => cases a <;> rfl
  | infinity s => cases h
  | number s m i => cases h
theorem nan_of (a : Int) (h0 : 0 ≤ a) : (Ieee.double.read a.toNat).isNaN = nanB a := by
  rw [nan_read, Int.toNat_of_nonneg h0]
theorem read_turn (a : Int) (h0 : 0 ≤ a) (h1 : a < 18446744073709551616) :
    Ieee.double.read (if a < 9223372036854775808 then a + 9223372036854775808 else a - 9223372036854775808).toNat = (Ieee.double.read a.toNat).opposite := by
  have e1 : (if a < 9223372036854775808 then a + 9223372036854775808 else a - 9223372036854775808).toNat % 9223372036854775808 = a.toNat % 9223372036854775808 := by split <;> omega
  have e2 : ((if a < 9223372036854775808 then a + 9223372036854775808 else a - 9223372036854775808).toNat / 9223372036854775808 % 2 == 1) = !(a.toNat / 9223372036854775808 % 2 == 1) := by
    rw [Bool.eq_iff_iff]; simp; split <;> omega
  rw [read_eq, read_eq, e1, e2]
  split
  · rfl
  · split
    · rfl
    · split <;> rfl
theorem negI_plain (a : Int) (hn : nanB a = false) : negI a = if a < 9223372036854775808 then a + 9223372036854775808 else a - 9223372036854775808 := by
  unfold negI; rw [if_neg (by rw [hn]; decide)]
theorem read_neg (a : Int) (h0 : 0 ≤ a) (h1 : a < 18446744073709551616) (hn : nanB a = false) : Ieee.double.read (negI a).toNat = (Ieee.double.read a.toNat).opposite := by
  rw [negI_plain a hn, read_turn a h0 h1]
theorem negI_nan (a : Int) : nanB (negI a) = nanB a := by
  cases hn : nanB a with
  | true => unfold negI; rw [if_pos hn]; decide
  | false => rw [negI_plain a hn, nan_turn, hn]
theorem sub_add (a b : Int) (h0 : 0 ≤ b) (h1 : b < 18446744073709551616) : opI .add a (negI b) = opI .sub a b := by
  have e : floatBits .add .f64 a.toNat (negI b).toNat = floatBits .sub .f64 a.toNat b.toNat := by
    show ((Ieee.double.read a.toNat).sum (Ieee.double.read (negI b).toNat)).map Ieee.double.write = ((Ieee.double.read a.toNat).sum (Ieee.double.read b.toNat).opposite).map Ieee.double.write
    cases hn : nanB b with
    | true =>
      have n1 : (Ieee.double.read (negI b).toNat).isNaN = true := by rw [nan_of _ (negI_range b h0 h1).1, negI_nan, hn]
      have n2 : (Ieee.double.read b.toNat).opposite.isNaN = true := by
        have : (Ieee.double.read b.toNat).isNaN = true := by rw [nan_of _ h0, hn]
        revert this
        cases Ieee.double.read b.toNat <;> simp [Datum.isNaN, Datum.opposite]
      rw [sum_nan _ _ n1, sum_nan _ _ n2]
    | false => rw [read_neg b h0 h1 hn]
  unfold opI; rw [e]
theorem fromI_nan (i : Int) : nanB (fromI i) = false := nearest_plain _ _ _
end Go.Proofs.YtgmimmdojkoppaaGreatDoor.W.Nu
/- Plain facts on what package soft answers, by the exact numbers: whole numbers, floors, whole parts, sums, products and quotients that are exact. -/
namespace Go.Proofs.YtgmimmdojkoppaaGreatDoor.W.Nu
open Ieee

/-- 1, in units of the least number's place -/
def one1 : Nat := bigOf 1074
theorem one1_pos : 0 < one1 := bigOf_pos 1074
theorem pow_one1 {k : Nat} (h : k = 1074) : 2 ^ k = one1 := by rw [one1, ← h]; rfl
/-- the exact number of a pattern -/
def keyI (a : Int) : Int := key (Ieee.double.read a.toNat)
/-- a finite double's pattern -/
def finB (a : Int) : Bool := decide (a % 9223372036854775808 < 9218868437227405312)

theorem fin_read (a : Int) (h : finB a = true) : ∃ s m p, Ieee.double.read a.toNat = .number s m p := by
  rw [read_eq]
  simp only [finB, decide_eq_true_eq] at h
  split
  · exact ⟨_, _, _, rfl⟩
  · rw [if_pos (by omega)]; exact ⟨_, _, _, rfl⟩
theorem fin_of_read (a : Int) (h0 : 0 ≤ a) {s : Bool} {m : Nat} {p : Int} (h : Ieee.double.read a.toNat = .number s m p) : finB a = true := by
  rw [read_eq] at h
  simp only [finB, decide_eq_true_eq]
  split at h
  · omega
  · split at h
    · omega
    · split at h <;> cases h
theorem fin_nan (a : Int) (h : finB a = true) : nanB a = false := by
  simp only [finB, decide_eq_true_eq] at h
  simp only [nanB, decide_eq_false_iff_not]
  omega

theorem order_keyI (a b : Int) (h0 : 0 ≤ a) (h0' : a < 18446744073709551616) (h1 : 0 ≤ b) (h1' : b < 18446744073709551616) (na : nanB a = false) (nb : nanB b = false) :
    Ieee.double.order a.toNat b.toNat = some (compare (keyI a) (keyI b)) :=
  order_key (by omega) (by omega) (by rw [nan_of a h0, na]) (by rw [nan_of b h1, nb])
theorem cmp_lt (x y : Int) : (some (compare x y) == some Ordering.lt) = decide (x < y) := by
  simp only [compare, compareOfLessAndEq]
  by_cases h : x < y
  · simp [h]
  · by_cases g : x = y <;> simp [h, g]
theorem cmp_eq (x y : Int) : (some (compare x y) == some Ordering.eq) = decide (x = y) := by
  simp only [compare, compareOfLessAndEq]
  by_cases h : x < y
  · simp [h]; omega
  · by_cases g : x = y <;> simp [g, h]
theorem cmp_gt (x y : Int) : (some (compare x y) == some Ordering.gt) = decide (y < x) := by
  simp only [compare, compareOfLessAndEq]
  by_cases h : x < y
  · simp [h]; omega
  · by_cases g : x = y
    · simp [g]
    · simp [g, h]; omega
theorem lessI_key (a b : Int) (h0 : 0 ≤ a) (h0' : a < 18446744073709551616) (h1 : 0 ≤ b) (h1' : b < 18446744073709551616) (na : nanB a = false) (nb : nanB b = false) : lessI a b = decide (keyI a < keyI b) := by unfold lessI; rw [order_keyI a b h0 h0' h1 h1' na nb, cmp_lt]
theorem equalI_key (a b : Int) (h0 : 0 ≤ a) (h0' : a < 18446744073709551616) (h1 : 0 ≤ b) (h1' : b < 18446744073709551616) (na : nanB a = false) (nb : nanB b = false) : equalI a b = decide (keyI a = keyI b) := by unfold equalI; rw [order_keyI a b h0 h0' h1 h1' na nb, cmp_eq]
theorem order_nan (a b : Int) (h0 : 0 ≤ a) (h1 : 0 ≤ b) (h : nanB a = true ∨ nanB b = true) : Ieee.double.order a.toNat b.toNat = none := by
  have e : (Ieee.double.read a.toNat).isNaN = true ∨ (Ieee.double.read b.toNat).isNaN = true := by rw [nan_of a h0, nan_of b h1]; exact h
  unfold Format.order
  cases ea : Ieee.double.read a.toNat <;> cases eb : Ieee.double.read b.toNat <;> rw [ea, eb] at e <;> simp [Datum.isNaN] at e <;> rfl
theorem less_nan (a b : Int) (h0 : 0 ≤ a) (h1 : 0 ≤ b) (h : nanB a = true ∨ nanB b = true) : lessI a b = false ∧ equalI a b = false ∧ lessEqI a b = false := by
  unfold lessI equalI lessEqI
  rw [order_nan a b h0 h1 h]
  exact ⟨rfl, rfl, rfl⟩

/-! ### whole numbers -/
/-- the double nearest to a whole number of at most 53 digits is that number -/
theorem nearest_key (s : Bool) (n : Nat) (hn : n ≤ 9007199254740992) :
    ∃ m p, Ieee.double.read (Ieee.double.nearest s n 0) = .number s m p ∧ -1074 ≤ p ∧ p ≤ 1 ∧ m * 2 ^ (p + 1074).toNat = n * one1 := by
  by_cases h : n < 9007199254740992
  · obtain ⟨m, p, e, q1, q2, q3⟩ := read_nearest s n 0 h (by omega) (by omega)
    refine ⟨m, p, e, q1, by omega, ?_⟩
    rw [q3, Nat.mul_assoc, ← Nat.pow_add, pow_one1 (by omega)]
  · have e0 : n = 4503599627370496 * 2 ^ 1 := by omega
    have e1 : Ieee.double.nearest s n 0 = Ieee.double.nearest s 4503599627370496 1 := by
      rw [e0]; exact nearest_shift Ieee.double s 4503599627370496 1 1
    obtain ⟨m, p, e, q1, q2, q3⟩ := read_nearest s 4503599627370496 1 (by omega) (by omega) (by omega)
    rw [e1]
    refine ⟨m, p, e, q1, by omega, ?_⟩
    have e2 : 2 ^ ((1 - p).toNat + (p + 1074).toNat) = 2 ^ 1 * one1 := by
      rw [← pow_one1 (k := (1 - p).toNat + (p + 1074).toNat - 1) (by omega), ← Nat.pow_add]
      congr 1; omega
    rw [q3, e0, Nat.mul_assoc, Nat.mul_assoc, ← Nat.pow_add, e2]
theorem sgn_mul (i : Int) (s : Bool) (hs : i ≠ 0 → s = decide (i < 0)) : (if s then -1 else 1) * (i.natAbs : Int) = i := by
  by_cases h : i = 0
  · subst h; cases s <;> rfl
  · rw [hs h]
    by_cases g : i < 0
    · simp [g]; omega
    · simp [g]; omega
theorem fromI_key (i : Int) (hi : i.natAbs ≤ 9007199254740992) : finB (fromI i) = true ∧ keyI (fromI i) = i * one1 := by
  obtain ⟨m, p, e, q1, q2, q3⟩ := nearest_key (decide (i < 0)) i.natAbs hi
  have e' : Ieee.double.read (fromI i).toNat = .number (decide (i < 0)) m p := e
  refine ⟨fin_of_read _ (fromI_range i).1 e', ?_⟩
  unfold keyI
  rw [e', key, signed_eq, q3, Int.natCast_mul, ← Int.mul_assoc, sgn_mul i _ (fun _ => rfl)]

/-- where a quotient by one lies -/
theorem quo_unique (q t : Int) (k : Int) (h1 : q * one1 ≤ k) (h2 : k < q * one1 + one1) (h3 : t * one1 ≤ k) (h4 : k < t * one1 + one1) : q = t := by
  have p : (0 : Int) < one1 := by have := one1_pos; omega
  have a : q < t + 1 := Int.lt_of_mul_lt_mul_right (a := (one1 : Int)) (by rw [Int.add_mul]; omega) (by omega)
  have b : t < q + 1 := Int.lt_of_mul_lt_mul_right (a := (one1 : Int)) (by rw [Int.add_mul]; omega) (by omega)
  omega
end Go.Proofs.YtgmimmdojkoppaaGreatDoor.W.Nu
/- Plain facts on what package soft answers, by the exact numbers: whole parts, floors, sums, differences, products and quotients that are exact. -/
namespace Go.Proofs.YtgmimmdojkoppaaGreatDoor.W.Nu
open Ieee

theorem quo_scale (n g c : Nat) (hg : 0 < g) (hc : 0 < c) : n / g * (g * c) ≤ n * c ∧ n * c < n / g * (g * c) + g * c := by
  have h1 := Nat.div_add_mod n g
  have h2 := Nat.mod_lt n hg
  have e : n * c = n / g * (g * c) + n % g * c := by
    have : n = n / g * g + n % g := by rw [Nat.mul_comm]; omega
    conv => lhs; rw [this]
    rw [Nat.add_mul, Nat.mul_assoc]
  have h3 : n % g * c < g * c := Nat.mul_lt_mul_of_pos_right h2 hc
  omega
/-- a double's whole part -/
def truncI (a : Int) : Int := match Ieee.double.read a.toNat with | .number s m p => signed s (m * 2 ^ p.toNat / 2 ^ (-p).toNat) 0 | _ => 0
theorem signed_v (s : Bool) (m k : Nat) : signed s m k = if s then -((m * 2 ^ k : Nat) : Int) else ((m * 2 ^ k : Nat) : Int) := by
  unfold signed; rw [Nat.shiftLeft_eq]
theorem trunc_some (a : Int) (h : finB a = true) : (Ieee.double.read a.toNat).toInt .zero = some (truncI a) := by
  obtain ⟨s, m, p, e⟩ := fin_read a h
  unfold truncI
  rw [e]
  show some (signed s (Toward.zero.cut s (m <<< p.toNat) (-p).toNat) 0) = _
  rw [cut_zero, Nat.shiftLeft_eq]
/-- a number's parts, scaled to the least number's place -/
theorem scale_eq (m : Nat) (p : Int) (h1 : -1074 ≤ p) : m * 2 ^ (p + 1074).toNat = m * 2 ^ p.toNat * 2 ^ (1074 - (-p).toNat) ∧ one1 = 2 ^ (-p).toNat * 2 ^ (1074 - (-p).toNat) := by
  constructor
  · rw [Nat.mul_assoc, ← Nat.pow_add]; congr 2; omega
  · rw [← Nat.pow_add, pow_one1 (by omega)]
theorem trunc_key (a : Int) (h0' : a < 18446744073709551616) (h : finB a = true) :
    (0 ≤ keyI a → truncI a * one1 ≤ keyI a ∧ keyI a < truncI a * one1 + one1) ∧ (keyI a ≤ 0 → keyI a ≤ truncI a * one1 ∧ truncI a * one1 - one1 < keyI a) := by
  obtain ⟨s, m, p, e⟩ := fin_read a h
  obtain ⟨q1, q2, q3, q4, q5⟩ := read_number (by omega) e
  obtain ⟨e1, e2⟩ := scale_eq m p q2
  have hs := quo_scale (m * 2 ^ p.toNat) (2 ^ (-p).toNat) (2 ^ (1074 - (-p).toNat)) (Nat.two_pow_pos _) (Nat.two_pow_pos _)
  unfold keyI truncI
  rw [e]
  simp only [key, signed_v, Nat.pow_zero, Nat.mul_one]
  rw [← e2, ← e1] at hs
  have hp := one1_pos
  generalize m * 2 ^ p.toNat / 2 ^ (-p).toNat = T at *
  generalize m * 2 ^ (p + 1074).toNat = V at *
  obtain ⟨g1, g2⟩ := hs
  have g1' : (T : Int) * one1 ≤ V := by exact_mod_cast g1
  have g2' : (V : Int) < (T : Int) * one1 + one1 := by exact_mod_cast g2
  cases s
  · simp only [Bool.false_eq_true, if_false]; omega
  · simp only [if_true, Int.neg_mul]; omega

theorem key_top : keyI 4890909195324358656 = 9223372036854775808 * one1 := by
  have e : Ieee.double.read (4890909195324358656 : Int).toNat = .number false 4503599627370496 11 := by decide +kernel
  unfold keyI
  rw [e]
  simp only [key, signed_v, Bool.false_eq_true, if_false]
  have e2 : 2 ^ ((11 : Int) + 1074).toNat = 2 ^ 11 * one1 := by rw [← pow_one1 (k := ((11 : Int) + 1074).toNat - 11) (by decide), ← Nat.pow_add]; congr 1
  rw [e2]; omega
theorem key_bot : keyI 14114281232179134464 = -9223372036854775808 * one1 := by
  have e : Ieee.double.read (14114281232179134464 : Int).toNat = .number true 4503599627370496 11 := by decide +kernel
  unfold keyI
  rw [e]
  simp only [key, signed_v, if_true]
  have e2 : 2 ^ ((11 : Int) + 1074).toNat = 2 ^ 11 * one1 := by rw [← pow_one1 (k := ((11 : Int) + 1074).toNat - 11) (by decide), ← Nat.pow_add]; congr 1
  rw [e2]; omega
theorem fits_key (a : Int) (h0 : 0 ≤ a) (h0' : a < 18446744073709551616) (na : nanB a = false) :
    fitsB a = decide (-9223372036854775808 * one1 ≤ keyI a ∧ keyI a < 9223372036854775808 * one1) := by
  have o1 := order_keyI a 14114281232179134464 h0 h0' (by decide) (by decide) na (by decide)
  have o2 := order_keyI a 4890909195324358656 h0 h0' (by decide) (by decide) na (by decide)
  unfold fitsB
  rw [show (14114281232179134464 : Nat) = (14114281232179134464 : Int).toNat from rfl, show (4890909195324358656 : Nat) = (4890909195324358656 : Int).toNat from rfl, o1, o2, cmp_gt, cmp_eq, cmp_lt, key_top, key_bot, Bool.eq_iff_iff]
  simp
  omega
theorem trunc_val (a : Int) (h0' : a < 18446744073709551616) (h : finB a = true) (h1 : -9223372036854775808 * (one1 : Int) ≤ keyI a) (h2 : keyI a < 9223372036854775808 * one1) :
    floatToIntVal .f64 a.toNat .i64 = some (truncI a) := by
  have hr : -9223372036854775808 ≤ truncI a ∧ truncI a ≤ 9223372036854775807 := by
    obtain ⟨k1, k2⟩ := trunc_key a h0' h
    have p : (0 : Int) < one1 := by have := one1_pos; omega
    by_cases g : 0 ≤ keyI a
    · obtain ⟨g1, g2⟩ := k1 g
      have b1 : truncI a < 9223372036854775808 := Int.lt_of_mul_lt_mul_right (a := (one1 : Int)) (by omega) (by omega)
      have b2 : -1 < truncI a := Int.lt_of_mul_lt_mul_right (a := (one1 : Int)) (by omega) (by omega)
      omega
    · obtain ⟨g1, g2⟩ := k2 (by omega)
      have b1 : truncI a < 1 := Int.lt_of_mul_lt_mul_right (a := (one1 : Int)) (by omega) (by omega)
      have b2 : -9223372036854775809 < truncI a := Int.lt_of_mul_lt_mul_right (a := (one1 : Int)) (by omega) (by omega)
      omega
  unfold floatToIntVal
  have e : (FloatKind.f64.decode a.toNat).toInt .zero = some (truncI a) := trunc_some a h
  rw [e]
  exact if_pos hr

end Go.Proofs.YtgmimmdojkoppaaGreatDoor.W.Nu
