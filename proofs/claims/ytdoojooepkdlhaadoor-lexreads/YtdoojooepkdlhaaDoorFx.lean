/- Plain facts on words of IEEE 754: a number is written as its nearest word whatever its spelling; what a format has is written as it was read; words compare by the exact numbers that they are. -/
import Derived.Test.YtdoojooepkdlhaaDoorFl
namespace Go.Proofs.YtdoojooepkdlhaaDoor.W
open Ieee

/-- a quotient rounded to the nearest whole number, between two the even one -/
def cutE (n g : Nat) : Nat := n / g + (if g < 2 * (n % g) ∨ (g = 2 * (n % g) ∧ n / g % 2 = 1) then 1 else 0)

theorem gap_low (n d : Nat) (h : n.log2 + 2 < d) : n < 2 ^ (n.log2 + 2) ∧ 2 * n < 2 ^ (n.log2 + 2) ∧ 2 ^ (n.log2 + 2) < 2 ^ d := by
  have h1 : n < 2 ^ (n.log2 + 1) := Nat.lt_log2_self
  have h2 : 2 ^ (n.log2 + 2) = 2 * 2 ^ (n.log2 + 1) := by rw [show n.log2 + 2 = n.log2 + 1 + 1 from rfl, Nat.pow_succ]; omega
  have h3 : 2 ^ (n.log2 + 2) < 2 ^ d := Nat.pow_lt_pow_right (by omega) h
  omega

theorem toNat_if {b : Bool} {p : Prop} [Decidable p] (h : b = true ↔ p) : b.toNat = if p then 1 else 0 := by
  cases b <;> by_cases hp : p <;> simp_all
theorem cut_even (s : Bool) (n d : Nat) : Toward.even.cut s n d = cutE n (2 ^ d) := by
  unfold Toward.cut cutE
  simp only [Nat.one_shiftLeft]
  by_cases h : d ≤ n.log2 + 2
  · rw [Nat.min_eq_left h]
    congr 1
    generalize 2 ^ d = g
    exact toNat_if (by simp)
  · rw [Nat.min_eq_right (by omega)]
    obtain ⟨h1, h2, h3⟩ := gap_low n d (by omega)
    have h4 : n < 2 ^ d := by omega
    rw [Nat.div_eq_of_lt h1, Nat.mod_eq_of_lt h1, Nat.div_eq_of_lt h4, Nat.mod_eq_of_lt h4, if_neg (by omega)]
    have e : decide (2 ^ (n.log2 + 2) < 2 * n) = false := by simp; omega
    simp [e]
theorem cut_down (s : Bool) (n d : Nat) : Toward.down.cut s n d = n / 2 ^ d + (if s = true ∧ n % 2 ^ d ≠ 0 then 1 else 0) := by
  unfold Toward.cut
  simp only [Nat.one_shiftLeft]
  by_cases h : d ≤ n.log2 + 2
  · rw [Nat.min_eq_left h]
    congr 1
    cases s <;> by_cases h1 : n % 2 ^ d = 0 <;> simp [h1]
  · rw [Nat.min_eq_right (by omega)]
    obtain ⟨h1, h2, h3⟩ := gap_low n d (by omega)
    rw [Nat.div_eq_of_lt h1, Nat.mod_eq_of_lt h1, Nat.div_eq_of_lt (by omega), Nat.mod_eq_of_lt (by omega)]
    cases s <;> by_cases h1 : n = 0 <;> simp [h1]
theorem cut_zero (s : Bool) (n d : Nat) : Toward.zero.cut s n d = n / 2 ^ d := by
  unfold Toward.cut
  simp only [Nat.one_shiftLeft]
  by_cases h : d ≤ n.log2 + 2
  · rw [Nat.min_eq_left h]; simp
  · rw [Nat.min_eq_right (by omega)]
    obtain ⟨h1, h2, h3⟩ := gap_low n d (by omega)
    rw [Nat.div_eq_of_lt h1, Nat.div_eq_of_lt (by omega)]
    simp

theorem cutE_mul (n g c : Nat) (hc : 0 < c) : cutE (n * c) (g * c) = cutE n g := by
  unfold cutE
  rw [Nat.mul_div_mul_right n g hc, Nat.mul_mod_mul_right]
  congr 1
  have e : 2 * (n % g * c) = 2 * (n % g) * c := by rw [Nat.mul_assoc]
  rw [e]
  have h1 : (g * c < 2 * (n % g) * c) = (g < 2 * (n % g)) := propext (Nat.mul_lt_mul_right hc)
  have h2 : (g * c = 2 * (n % g) * c) = (g = 2 * (n % g)) := propext (Nat.mul_left_inj (by omega))
  simp only [h1, h2]
theorem cutE_one (n : Nat) : cutE n 1 = n := by
  unfold cutE
  simp [Nat.mod_one]
theorem cutE_move (m a b a' b' : Nat) (h : a' + b = a + b') : cutE (m * 2 ^ a') (2 ^ b') = cutE (m * 2 ^ a) (2 ^ b) := by
  rw [← cutE_mul (m * 2 ^ a') (2 ^ b') (2 ^ b) (Nat.two_pow_pos _), ← cutE_mul (m * 2 ^ a) (2 ^ b) (2 ^ b') (Nat.two_pow_pos _)]
  rw [Nat.mul_assoc, Nat.mul_assoc, ← Nat.pow_add, ← Nat.pow_add, ← Nat.pow_add, ← Nat.pow_add, h, Nat.add_comm b' b]

theorem log2_shift (m k : Nat) (h : m ≠ 0) : (m * 2 ^ k).log2 = m.log2 + k := by
  induction k with
  | zero => simp
  | succ k ih =>
    rw [Nat.pow_succ, ← Nat.mul_assoc, Nat.mul_comm _ 2, Nat.log2_two_mul (Nat.mul_ne_zero h (Nat.ne_of_gt (Nat.two_pow_pos k))), ih]
    omega

theorem nearest_shift (f : Format) (s : Bool) (m k : Nat) (p : Int) : f.nearest s (m * 2 ^ k) (p - k) = f.nearest s m p := by
  unfold Format.nearest
  by_cases h : m = 0
  · subst h; simp
  · have h' : m * 2 ^ k ≠ 0 := Nat.mul_ne_zero h (Nat.ne_of_gt (Nat.two_pow_pos k))
    rw [if_neg h', if_neg h, log2_shift m k h]
    have e : p - (k : Int) + ((m.log2 + k : Nat) : Int) - f.fractionBits = p + (m.log2 : Nat) - f.fractionBits := by omega
    simp only [e]
    generalize max (p + (m.log2 : Nat) - f.fractionBits) f.leastPlace = L
    rw [cut_even, cut_even, Nat.shiftLeft_eq, Nat.shiftLeft_eq, Nat.mul_assoc, ← Nat.pow_add]
    rw [cutE_move m (p - L).toNat (L - p).toNat (k + (p - k - L).toNat) (L - (p - k)).toNat (by omega)]
theorem nearest_same (f : Format) (s : Bool) (m m' : Nat) (p p' b : Int) (h1 : b ≤ p) (h2 : b ≤ p') (h : m * 2 ^ (p - b).toNat = m' * 2 ^ (p' - b).toNat) :
    f.nearest s m p = f.nearest s m' p' := by
  rw [← nearest_shift f s m (p - b).toNat p, ← nearest_shift f s m' (p' - b).toNat p', h]
  congr 1
  omega

/-! ### what a word reads as, written again -/
theorem read_number {x : Nat} {s : Bool} {m : Nat} {p : Int} (hx : x < 18446744073709551616) (h : Ieee.double.read x = .number s m p) :
    m < 9007199254740992 ∧ -1074 ≤ p ∧ p ≤ 971 ∧ (4503599627370496 ≤ m ∨ p = -1074) ∧ x = (if s then 9223372036854775808 else 0) + ((p + 1074).toNat * 4503599627370496 + m) := by
  rw [read_eq] at h
  have hs : (if (x / 9223372036854775808 % 2 == 1) = true then 9223372036854775808 else 0) = x / 9223372036854775808 * 9223372036854775808 := by
    by_cases g : x / 9223372036854775808 % 2 = 1
    · simp [g]; omega
    · simp [g]; omega
  split at h
  · cases h
    refine ⟨by omega, by omega, by omega, Or.inr rfl, ?_⟩
    rw [hs]; omega
  · split at h
    · cases h
      refine ⟨by omega, by omega, by omega, Or.inl (by omega), ?_⟩
      rw [hs]; omega
    · split at h <;> cases h

theorem write_read {x : Nat} {s : Bool} {m : Nat} {p : Int} (hx : x < 18446744073709551616) (h : Ieee.double.read x = .number s m p) : Ieee.double.nearest s m p = x := by
  obtain ⟨h1, h2, h3, h4, h5⟩ := read_number hx h
  unfold Format.nearest
  by_cases h0 : m = 0
  · subst h0
    rw [if_pos rfl, word_eq, h5]
    have : p = -1074 := by omega
    subst this
    simp
  · rw [if_neg h0]
    have hl : m.log2 ≤ 52 := by
      have : m.log2 < 53 := (Nat.log2_lt h0).2 (by omega)
      omega
    have hL : max (p + (m.log2 : Nat) - ((Ieee.double.fractionBits : Nat) : Int)) Ieee.double.leastPlace = p := by
      rw [D_least]
      show max (p + (m.log2 : Nat) - 52) (-1074) = p
      rcases h4 with h4 | h4
      · have : 52 ≤ m.log2 := (Nat.le_log2 h0).2 (by omega)
        omega
      · omega
    simp only [hL]
    rw [cut_even]
    simp only [Int.sub_self, Int.toNat_zero, Nat.shiftLeft_zero, Nat.pow_zero, cutE_one, D_least, D_bin, D_inf, word_eq]
    rw [h5, show p - -1074 = p + 1074 from by omega, Nat.min_eq_left (by omega)]
theorem write_inf {x : Nat} {s : Bool} (hx : x < 18446744073709551616) (h : Ieee.double.read x = .infinity s) : Ieee.double.write (.infinity s) = x := by
  have e : Ieee.double.write (.infinity s) = Ieee.double.word s Ieee.double.infRung := rfl
  rw [e, word_eq, D_inf]
  rw [read_eq] at h
  split at h
  · cases h
  · split at h
    · cases h
    · split at h
      · rename_i h1 h2 h3
        cases h
        by_cases g : x / 9223372036854775808 % 2 = 1
        · simp [g]; omega
        · simp [g]; omega
      · cases h

/-- a number of at most 53 digits, within the format's places, is read as it was written -/
theorem read_nearest (s : Bool) (m : Nat) (p : Int) (hm : m < 9007199254740992) (h1 : -1074 ≤ p) (h2 : p ≤ 971) :
    ∃ m' p', Ieee.double.read (Ieee.double.nearest s m p) = .number s m' p' ∧ -1074 ≤ p' ∧ p' ≤ p ∧ m' = m * 2 ^ (p - p').toNat := by
  have hsg : ∀ r, r < 9223372036854775808 → (((if s = true then 9223372036854775808 else 0) + r) / 9223372036854775808 % 2 == 1) = s ∧ ((if s = true then 9223372036854775808 else 0) + r) % 9223372036854775808 = r := by
    intro r hr
    cases s
    · simp; omega
    · simp; omega
  unfold Format.nearest
  by_cases h0 : m = 0
  · subst h0
    rw [if_pos rfl, word_eq, read_eq, (hsg 0 (by omega)).1, (hsg 0 (by omega)).2, if_pos (by omega)]
    exact ⟨0, -1074, rfl, by omega, by omega, by simp⟩
  · rw [if_neg h0]
    have hl : m.log2 ≤ 52 := by
      have : m.log2 < 53 := (Nat.log2_lt h0).2 (by omega)
      omega
    have hlo : 2 ^ m.log2 ≤ m := Nat.log2_self_le h0
    have hhi : m < 2 ^ (m.log2 + 1) := Nat.lt_log2_self
    have eL : max (p + (m.log2 : Nat) - ((Ieee.double.fractionBits : Nat) : Int)) Ieee.double.leastPlace = max (p + (m.log2 : Nat) - 52) (-1074) := by rw [D_least]; rfl
    simp only [eL]
    generalize hL : max (p + (m.log2 : Nat) - 52) (-1074) = L
    have hLp : L ≤ p := by omega
    have hL1 : -1074 ≤ L := by omega
    rw [cut_even, show (L - p).toNat = 0 from by omega, Nat.pow_zero, cutE_one, Nat.shiftLeft_eq, D_least, D_bin, D_inf, word_eq]
    -- K: the digits that are kept
    have hK2 : m * 2 ^ (p - L).toNat < 9007199254740992 := by
      have a1 : m * 2 ^ (p - L).toNat < 2 ^ (m.log2 + 1) * 2 ^ (p - L).toNat := Nat.mul_lt_mul_of_pos_right hhi (Nat.two_pow_pos _)
      rw [← Nat.pow_add] at a1
      have a2 : 2 ^ (m.log2 + 1 + (p - L).toNat) ≤ 2 ^ 53 := Nat.pow_le_pow_right (by omega) (by omega)
      omega
    have hK1 : L = -1074 ∨ 4503599627370496 ≤ m * 2 ^ (p - L).toNat := by
      by_cases g : L = -1074
      · exact Or.inl g
      · right
        have a1 : 2 ^ m.log2 * 2 ^ (p - L).toNat ≤ m * 2 ^ (p - L).toNat := Nat.mul_le_mul_right _ hlo
        rw [← Nat.pow_add, show m.log2 + (p - L).toNat = 52 from by omega] at a1
        omega
    generalize hK : m * 2 ^ (p - L).toNat = K at *
    have hmin : min ((L - -1074).toNat * 4503599627370496 + K) 9218868437227405312 = (L + 1074).toNat * 4503599627370496 + K := by
      rw [show L - -1074 = L + 1074 from by omega]
      exact Nat.min_eq_left (by omega)
    rw [hmin, read_eq, (hsg _ (by omega)).1, (hsg _ (by omega)).2]
    split
    · rename_i g
      refine ⟨_, _, rfl, by omega, by omega, ?_⟩
      have : L = -1074 := by omega
      subst this
      rw [hK]; omega
    · rename_i g
      rw [if_pos (by omega)]
      refine ⟨_, _, rfl, by omega, by omega, ?_⟩
      have e1 : (-1074 + ((((L + 1074).toNat * 4503599627370496 + K) / 4503599627370496 - 1 : Nat) : Int)) = L := by omega
      rw [e1, hK]
      omega

/-! ### words compare by the exact numbers -/
/-- beyond every finite double, in units of the least number's place -/
def bigOf (k : Nat) : Nat := 2 ^ k
theorem bigOf_pos (k : Nat) : 0 < bigOf k := Nat.two_pow_pos k
theorem bigOf_le {k n : Nat} (h : k ≤ n) : 2 ^ k ≤ bigOf n := Nat.pow_le_pow_right (by omega) h
def big : Nat := bigOf 2200
theorem big_pos : 0 < big := bigOf_pos 2200
theorem big_le {k : Nat} (h : k ≤ 2200) : 2 ^ k ≤ big := bigOf_le h
/-- the exact number of a datum, in units of the least number's place; infinities beyond all -/
def key : Datum → Int
  | .number s m p => signed s m (p + 1074).toNat
  | .infinity s => if s then -(big : Int) else (big : Int)
  | .nan _ _ => 0

theorem signed_eq (s : Bool) (m k : Nat) : signed s m k = (if s then -1 else 1) * ((m * 2 ^ k : Nat) : Int) := by
  unfold signed
  rw [Nat.shiftLeft_eq]
  cases s <;> simp
theorem signed_add (s : Bool) (m a c : Nat) : signed s m (a + c) = signed s m a * ((2 ^ c : Nat) : Int) := by
  rw [signed_eq, signed_eq, Int.mul_assoc, ← Int.natCast_mul, Nat.mul_assoc, ← Nat.pow_add]
theorem compare_mul (x y c : Int) (hc : 0 < c) : compare (x * c) (y * c) = compare x y := by
  have h1 : (x * c < y * c) = (x < y) := propext ⟨fun h => Int.lt_of_mul_lt_mul_right h (Int.le_of_lt hc), fun h => Int.mul_lt_mul_of_pos_right h hc⟩
  have h2 : (x * c = y * c) = (x = y) := propext ⟨fun h => Int.eq_of_mul_eq_mul_right (Int.ne_of_gt hc) h, fun h => by rw [h]⟩
  simp only [compare, compareOfLessAndEq, h1, h2]
theorem key_bound {x : Nat} {s : Bool} {m : Nat} {p : Int} (hx : x < 18446744073709551616) (h : Ieee.double.read x = .number s m p) :
    -(big : Int) < signed s m (p + 1074).toNat ∧ signed s m (p + 1074).toNat < (big : Int) := by
  obtain ⟨h1, h2, h3, -, -⟩ := read_number hx h
  have a1 : m * 2 ^ (p + 1074).toNat < 2 ^ 53 * 2 ^ (p + 1074).toNat := Nat.mul_lt_mul_of_pos_right (by omega) (Nat.two_pow_pos _)
  rw [← Nat.pow_add] at a1
  have a2 : 2 ^ (53 + (p + 1074).toNat) ≤ big := big_le (by omega)
  rw [signed_eq]
  generalize big = B at *
  generalize m * 2 ^ (p + 1074).toNat = V at *
  cases s <;> simp <;> omega
theorem order_key {x y : Nat} (hx : x < 18446744073709551616) (hy : y < 18446744073709551616) (nx : (Ieee.double.read x).isNaN = false) (ny : (Ieee.double.read y).isNaN = false) :
    Ieee.double.order x y = some (compare (key (Ieee.double.read x)) (key (Ieee.double.read y))) := by
  unfold Format.order
  cases ex : Ieee.double.read x with
  | nan s t => rw [ex] at nx; cases nx
  | infinity s =>
    cases ey : Ieee.double.read y with
    | nan s t => rw [ey] at ny; cases ny
    | infinity t =>
      have hB := big_pos
      simp only [Datum.order, key]
      generalize big = B at *
      cases s <;> cases t <;> simp [compare, compareOfLessAndEq] <;> (try omega)
      all_goals (repeat' split) <;> first | rfl | omega
    | number t n j =>
      obtain ⟨k1, k2⟩ := key_bound hy ey
      simp only [Datum.order, key]
      generalize big = B at *
      cases s
      · simp only [compare, compareOfLessAndEq, Bool.false_eq_true, if_false]
        rw [if_neg (by omega), if_neg (by omega)]
      · simp only [compare, compareOfLessAndEq, if_true]
        rw [if_pos (by omega)]
  | number s m i =>
    obtain ⟨k1, k2⟩ := key_bound hx ex
    obtain ⟨-, hi, -, -, -⟩ := read_number hx ex
    cases ey : Ieee.double.read y with
    | nan s t => rw [ey] at ny; cases ny
    | infinity t =>
      simp only [Datum.order, key]
      generalize big = B at *
      cases t
      · simp only [compare, compareOfLessAndEq, Bool.false_eq_true, if_false]
        rw [if_pos (by omega)]
      · simp only [compare, compareOfLessAndEq, if_true]
        rw [if_neg (by omega), if_neg (by omega)]
    | number t n j =>
      obtain ⟨-, hj, -, -, -⟩ := read_number hy ey
      simp only [Datum.order, key]
      have e1 : (i + 1074).toNat = (i - min i j).toNat + (min i j + 1074).toNat := by omega
      have e2 : (j + 1074).toNat = (j - min i j).toNat + (min i j + 1074).toNat := by omega
      rw [e1, e2, signed_add, signed_add, compare_mul _ _ _ (by have := Nat.two_pow_pos (min i j + 1074).toNat; omega)]
end Go.Proofs.YtdoojooepkdlhaaDoor.W
