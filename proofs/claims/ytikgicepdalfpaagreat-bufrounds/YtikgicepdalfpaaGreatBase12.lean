import Derived.Test.YtikgicepdalfpaaGreatBase11
import Derived.Laws.Externs
import Derived.Laws.BitsAllLaws
import Derived.KernelRfl
import Derived.Test.YtikgicepdalfpaaGreatBase10
import Derived.BigQuiet
/- Plain facts on words of IEEE 754: a number is written as its nearest word whatever its spelling; what a format has is written as it was read; words compare by the exact numbers that they are. -/
namespace Go.Proofs.YtikgicepdalfpaaGreat.W.Sf
open Ieee

/-- a quotient rounded to the nearest whole number, between two the even one -/
def cutE (n g : Nat) : Nat := n / g + (if g < 2 * (n % g) ∨ (g = 2 * (n % g) ∧ n / g % 2 = 1) then 1 else 0)

theorem gap_low (n d : Nat) (h : n.log2 + 2 < d) : n < 2 ^ (n.log2 + 2) ∧ 2 * n < 2 ^ (n.log2 + 2) ∧ 2 ^ (n.log2 + 2) < 2 ^ d := by
  have h1 : n < 2 ^ (n.log2 + 1) := Nat.lt_log2_self
  have h2 : 2 ^ (n.log2 + 2) = 2 * 2 ^ (n.log2 + 1) := by rw [show n.log2 + 2 = n.log2 + 1 + 1 from rfl, Nat.pow_succ]; omega
  have h3 : 2 ^ (n.log2 + 2) < 2 ^ d := Nat.pow_lt_pow_right (by omega) h
  omega

theorem toNat_if {b : Bool} {p : Prop} [Decidable p] (h : b = true ↔ p) : b.toNat = if p then 1 else 0 := by
  cases b <;> by_cases hp : p <;> simp_all
theorem cut_even (s : Bool) (n d : Nat) : Toward.even.cut s n d = cutE n (2 ^ d) := by
  unfold Toward.cut cutE
  simp only [Nat.one_shiftLeft]
  by_cases h : d ≤ n.log2 + 2
  · rw [Nat.min_eq_left h]
    congr 1
    generalize 2 ^ d = g
    exact toNat_if (by simp)
  · rw [Nat.min_eq_right (by omega)]
    obtain ⟨h1, h2, h3⟩ := gap_low n d (by omega)
    have h4 : n < 2 ^ d := by omega
    rw [Nat.div_eq_of_lt h1, Nat.mod_eq_of_lt h1, Nat.div_eq_of_lt h4, Nat.mod_eq_of_lt h4, if_neg (by omega)]
    have e : decide (2 ^ (n.log2 + 2) < 2 * n) = false := by simp; omega
    simp [e]
theorem cut_down (s : Bool) (n d : Nat) : Toward.down.cut s n d = n / 2 ^ d + (if s = true ∧ n % 2 ^ d ≠ 0 then 1 else 0) := by
  unfold Toward.cut
  simp only [Nat.one_shiftLeft]
  by_cases h : d ≤ n.log2 + 2
  · rw [Nat.min_eq_left h]
    congr 1
    cases s <;> by_cases h1 : n % 2 ^ d = 0 <;> simp [h1]
  · rw [Nat.min_eq_right (by omega)]
    obtain ⟨h1, h2, h3⟩ := gap_low n d (by omega)
    rw [Nat.div_eq_of_lt h1, Nat.mod_eq_of_lt h1, Nat.div_eq_of_lt (by omega), Nat.mod_eq_of_lt (by omega)]
    cases s <;> by_cases h1 : n = 0 <;> simp [h1]
theorem cut_zero (s : Bool) (n d : Nat) : Toward.zero.cut s n d = n / 2 ^ d := by
  unfold Toward.cut
  simp only [Nat.one_shiftLeft]
  by_cases h : d ≤ n.log2 + 2
  · rw [Nat.min_eq_left h]; simp
  · rw [Nat.min_eq_right (by omega)]
    obtain ⟨h1, h2, h3⟩ := gap_low n d (by omega)
    rw [Nat.div_eq_of_lt h1, Nat.div_eq_of_lt (by omega)]
    simp

theorem cutE_mul (n g c : Nat) (hc : 0 < c) : cutE (n * c) (g * c) = cutE n g := by
  unfold cutE
  rw [Nat.mul_div_mul_right n g hc, Nat.mul_mod_mul_right]
  congr 1
  have e : 2 * (n % g * c) = 2 * (n % g) * c := by rw [Nat.mul_assoc]
  rw [e]
  have h1 : (g * c < 2 * (n % g) * c) = (g < 2 * (n % g)) := propext (Nat.mul_lt_mul_right hc)
  have h2 : (g * c = 2 * (n % g) * c) = (g = 2 * (n % g)) := propext (Nat.mul_left_inj (by omega))
  simp only [h1, h2]
theorem cutE_one (n : Nat) : cutE n 1 = n := by
  unfold cutE
  simp [Nat.mod_one]
theorem cutE_move (m a b a' b' : Nat) (h : a' + b = a + b') : cutE (m * 2 ^ a') (2 ^ b') = cutE (m * 2 ^ a) (2 ^ b) := by
  rw [← cutE_mul (m * 2 ^ a') (2 ^ b') (2 ^ b) (Nat.two_pow_pos _), ← cutE_mul (m * 2 ^ a) (2 ^ b) (2 ^ b') (Nat.two_pow_pos _)]
  rw [Nat.mul_assoc, Nat.mul_assoc, ← Nat.pow_add, ← Nat.pow_add, ← Nat.pow_add, ← Nat.pow_add, h, Nat.add_comm b' b]

theorem log2_shift (m k : Nat) (h : m ≠ 0) : (m * 2 ^ k).log2 = m.log2 + k := by
  induction k with
  | zero => simp
  | succ k ih =>
    rw [Nat.pow_succ, ← Nat.mul_assoc, Nat.mul_comm _ 2, Nat.log2_two_mul (Nat.mul_ne_zero h (Nat.ne_of_gt (Nat.two_pow_pos k))), ih]
    omega

theorem nearest_shift (f : Format) (s : Bool) (m k : Nat) (p : Int) : f.nearest s (m * 2 ^ k) (p - k) = f.nearest s m p := by
  unfold Format.nearest
  by_cases h : m = 0
  · subst h; simp
  · have h' : m * 2 ^ k ≠ 0 := Nat.mul_ne_zero h (Nat.ne_of_gt (Nat.two_pow_pos k))
    rw [if_neg h', if_neg h, log2_shift m k h]
    have e : p - (k : Int) + ((m.log2 + k : Nat) : Int) - f.fractionBits = p + (m.log2 : Nat) - f.fractionBits := by omega
    simp only [e]
    generalize max (p + (m.log2 : Nat) - f.fractionBits) f.leastPlace = L
    rw [cut_even, cut_even, Nat.shiftLeft_eq, Nat.shiftLeft_eq, Nat.mul_assoc, ← Nat.pow_add]
    rw [cutE_move m (p - L).toNat (L - p).toNat (k + (p - k - L).toNat) (L - (p - k)).toNat (by omega)]
theorem nearest_same (f : Format) (s : Bool) (m m' : Nat) (p p' b : Int) (h1 : b ≤ p) (h2 : b ≤ p') (h : m * 2 ^ (p - b).toNat = m' * 2 ^ (p' - b).toNat) :
    f.nearest s m p = f.nearest s m' p' := by
  rw [← nearest_shift f s m (p - b).toNat p, ← nearest_shift f s m' (p' - b).toNat p', h]
  congr 1
  omega

/-! ### what a word reads as, written again -/
theorem read_number {x : Nat} {s : Bool} {m : Nat} {p : Int} (hx : x < 18446744073709551616) (h : Ieee.double.read x = .number s m p) :
    m < 9007199254740992 ∧ -1074 ≤ p ∧ p ≤ 971 ∧ (4503599627370496 ≤ m ∨ p = -1074) ∧ x = (if s then 9223372036854775808 else 0) + ((p + 1074).toNat * 4503599627370496 + m) := by
  rw [read_eq] at h
  have hs : (if (x / 9223372036854775808 % 2 == 1) = true then 9223372036854775808 else 0) = x / 9223372036854775808 * 9223372036854775808 := by
    by_cases g : x / 9223372036854775808 % 2 = 1
    · simp [g]; omega
    · simp [g]; omega
  split at h
  · cases h
    refine ⟨by omega, by omega, by omega, Or.inr rfl, ?_⟩
    rw [hs]; omega
  · split at h
    · cases h
      refine ⟨by omega, by omega, by omega, Or.inl (by omega), ?_⟩
      rw [hs]; omega
    · split at h <;> cases h

theorem write_read {x : Nat} {s : Bool} {m : Nat} {p : Int} (hx : x < 18446744073709551616) (h : Ieee.double.read x = .number s m p) : Ieee.double.nearest s m p = x := by
  obtain ⟨h1, h2, h3, h4, h5⟩ := read_number hx h
  unfold Format.nearest
  by_cases h0 : m = 0
  · subst h0
    rw [if_pos rfl, word_eq, h5]
    have : p = -1074 := by omega
    subst this
    simp
  · rw [if_neg h0]
    have hl : m.log2 ≤ 52 := by
      have : m.log2 < 53 := (Nat.log2_lt h0).2 (by omega)
      omega
    have hL : max (p + (m.log2 : Nat) - ((Ieee.double.fractionBits : Nat) : Int)) Ieee.double.leastPlace = p := by
      rw [D_least]
      show max (p + (m.log2 : Nat) - 52) (-1074) = p
      rcases h4 with h4 | h4
      · have : 52 ≤ m.log2 := (Nat.le_log2 h0).2 (by omega)
        omega
      · omega
    simp only [hL]
    rw [cut_even]
    simp only [Int.sub_self, Int.toNat_zero, Nat.shiftLeft_zero, Nat.pow_zero, cutE_one, D_least, D_bin, D_inf, word_eq]
    rw [h5, show p - -1074 = p + 1074 from by omega, Nat.min_eq_left (by omega)]
theorem write_inf {x : Nat} {s : Bool} (hx : x < 18446744073709551616) (h : Ieee.double.read x = .infinity s) : Ieee.double.write (.infinity s) = x := by
  have e : Ieee.double.write (.infinity s) = Ieee.double.word s Ieee.double.infRung := rfl
  rw [e, word_eq, D_inf]
  rw [read_eq] at h
  split at h
  · cases h
  · split at h
    · cases h
    · split at h
      · rename_i h1 h2 h3
        cases h
        by_cases g : x / 9223372036854775808 % 2 = 1
        · simp [g]; omega
        · simp [g]; omega
      · cases h

/-- a number of at most 53 digits, within the format's places, is read as it was written -/
theorem read_nearest (s : Bool) (m : Nat) (p : Int) (hm : m < 9007199254740992) (h1 : -1074 ≤ p) (h2 : p ≤ 971) :
    ∃ m' p', Ieee.double.read (Ieee.double.nearest s m p) = .number s m' p' ∧ -1074 ≤ p' ∧ p' ≤ p ∧ m' = m * 2 ^ (p - p').toNat := by
  have hsg : ∀ r, r < 9223372036854775808 → (((if s = true then 9223372036854775808 else 0) + r) / 9223372036854775808 % 2 == 1) = s ∧ ((if s = true then 9223372036854775808 else 0) + r) % 9223372036854775808 = r := by
    intro r hr
    cases s
    · simp; omega
    · simp; omega
  unfold Format.nearest
  by_cases h0 : m = 0
  · subst h0
    rw [if_pos rfl, word_eq, read_eq, (hsg 0 (by omega)).1, (hsg 0 (by omega)).2, if_pos (by omega)]
    exact ⟨0, -1074, rfl, by omega, by omega, by simp⟩
  · rw [if_neg h0]
    have hl : m.log2 ≤ 52 := by
      have : m.log2 < 53 := (Nat.log2_lt h0).2 (by omega)
      omega
    have hlo : 2 ^ m.log2 ≤ m := Nat.log2_self_le h0
    have hhi : m < 2 ^ (m.log2 + 1) := Nat.lt_log2_self
    have eL : max (p + (m.log2 : Nat) - ((Ieee.double.fractionBits : Nat) : Int)) Ieee.double.leastPlace = max (p + (m.log2 : Nat) - 52) (-1074) := by rw [D_least]; rfl
    simp only [eL]
    generalize hL : max (p + (m.log2 : Nat) - 52) (-1074) = L
    have hLp : L ≤ p := by omega
    have hL1 : -1074 ≤ L := by omega
    rw [cut_even, show (L - p).toNat = 0 from by omega, Nat.pow_zero, cutE_one, Nat.shiftLeft_eq, D_least, D_bin, D_inf, word_eq]
    -- K: the digits that are kept
    have hK2 : m * 2 ^ (p - L).toNat < 9007199254740992 := by
      have a1 : m * 2 ^ (p - L).toNat < 2 ^ (m.log2 + 1) * 2 ^ (p - L).toNat := Nat.mul_lt_mul_of_pos_right hhi (Nat.two_pow_pos _)
      rw [← Nat.pow_add] at a1
      have a2 : 2 ^ (m.log2 + 1 + (p - L).toNat) ≤ 2 ^ 53 := Nat.pow_le_pow_right (by omega) (by omega)
      omega
    have hK1 : L = -1074 ∨ 4503599627370496 ≤ m * 2 ^ (p - L).toNat := by
      by_cases g : L = -1074
      · exact Or.inl g
      · right
        have a1 : 2 ^ m.log2 * 2 ^ (p - L).toNat ≤ m * 2 ^ (p - L).toNat := Nat.mul_le_mul_right _ hlo
        rw [← Nat.pow_add, show m.log2 + (p - L).toNat = 52 from by omega] at a1
        omega
    generalize hK : m * 2 ^ (p - L).toNat = K at *
    have hmin : min ((L - -1074).toNat * 4503599627370496 + K) 9218868437227405312 = (L + 1074).toNat * 4503599627370496 + K := by
      rw [show L - -1074 = L + 1074 from by omega]
      exact Nat.min_eq_left (by omega)
    rw [hmin, read_eq, (hsg _ (by omega)).1, (hsg _ (by omega)).2]
    split
    · rename_i g
      refine ⟨_, _, rfl, by omega, by omega, ?_⟩
      have : L = -1074 := by omega
      subst this
      rw [hK]; omega
    · rename_i g
      rw [if_pos (by omega)]
      refine ⟨_, _, rfl, by omega, by omega, ?_⟩
      have e1 : (-1074 + ((((L + 1074).toNat * 4503599627370496 + K) / 4503599627370496 - 1 : Nat) : Int)) = L := by omega
      rw [e1, hK]
      omega

/-! ### words compare by the exact numbers -/
/-- beyond every finite double, in units of the least number's place -/
def bigOf (k : Nat) : Nat := 2 ^ k
theorem bigOf_pos (k : Nat) : 0 < bigOf k := Nat.two_pow_pos k
theorem bigOf_le {k n : Nat} (h : k ≤ n) : 2 ^ k ≤ bigOf n := Nat.pow_le_pow_right (by omega) h
def big : Nat := bigOf 2200
theorem big_pos : 0 < big := bigOf_pos 2200
theorem big_le {k : Nat} (h : k ≤ 2200) : 2 ^ k ≤ big := bigOf_le h
/-- the exact number of a datum, in units of the least number's place; infinities beyond all -/
def key : Datum → Int
  | .number s m p => signed s m (p + 1074).toNat
  | .infinity s => if s then -(big : Int) else (big : Int)
  | .nan _ _ => 0

theorem signed_eq (s : Bool) (m k : Nat) : signed s m k = (if s then -1 else 1) * ((m * 2 ^ k : Nat) : Int) := by
  unfold signed
  rw [Nat.shiftLeft_eq]
  cases s <;> simp
theorem signed_add (s : Bool) (m a c : Nat) : signed s m (a + c) = signed s m a * ((2 ^ c : Nat) : Int) := by
  rw [signed_eq, signed_eq, Int.mul_assoc, ← Int.natCast_mul, Nat.mul_assoc, ← Nat.pow_add]
theorem compare_mul (x y c : Int) (hc : 0 < c) : compare (x * c) (y * c) = compare x y := by
  have h1 : (x * c < y * c) = (x < y) := propext ⟨fun h => Int.lt_of_mul_lt_mul_right h (Int.le_of_lt hc), fun h => Int.mul_lt_mul_of_pos_right h hc⟩
  have h2 : (x * c = y * c) = (x = y) := propext ⟨fun h => Int.eq_of_mul_eq_mul_right (Int.ne_of_gt hc) h, fun h => by rw [h]⟩
  simp only [compare, compareOfLessAndEq, h1, h2]
theorem key_bound {x : Nat} {s : Bool} {m : Nat} {p : Int} (hx : x < 18446744073709551616) (h : Ieee.double.read x = .number s m p) :
    -(big : Int) < signed s m (p + 1074).toNat ∧ signed s m (p + 1074).toNat < (big : Int) := by
  obtain ⟨h1, h2, h3, -, -⟩ := read_number hx h
  have a1 : m * 2 ^ (p + 1074).toNat < 2 ^ 53 * 2 ^ (p + 1074).toNat := Nat.mul_lt_mul_of_pos_right (by omega) (Nat.two_pow_pos _)
  rw [← Nat.pow_add] at a1
  have a2 : 2 ^ (53 + (p + 1074).toNat) ≤ big := big_le (by omega)
  rw [signed_eq]
  generalize big = B at *
  generalize m * 2 ^ (p + 1074).toNat = V at *
  cases s <;> simp <;> omega
theorem order_key {x y : Nat} (hx : x < 18446744073709551616) (hy : y < 18446744073709551616) (nx : (Ieee.double.read x).isNaN = false) (ny : (Ieee.double.read y).isNaN = false) :
    Ieee.double.order x y = some (compare (key (Ieee.double.read x)) (key (Ieee.double.read y))) := by
  unfold Format.order
  cases ex : Ieee.double.read x with
  | nan s t => rw [ex] at nx; cases nx
  | infinity s =>
    cases ey : Ieee.double.read y with
    | nan s t => rw [ey] at ny; cases ny
    | infinity t =>
      have hB := big_pos
      simp only [Datum.order, key]
      generalize big = B at *
      cases s <;> cases t <;> simp [compare, compareOfLessAndEq] <;> (try omega)
      all_goals (repeat' split) <;> first | rfl | omega
    | number t n j =>
      obtain ⟨k1, k2⟩ := key_bound hy ey
      simp only [Datum.order, key]
      generalize big = B at *
      cases s
      · simp only [compare, compareOfLessAndEq, Bool.false_eq_true, if_false]
        rw [if_neg (by omega), if_neg (by omega)]
      · simp only [compare, compareOfLessAndEq, if_true]
        rw [if_pos (by omega)]
  | number s m i =>
    obtain ⟨k1, k2⟩ := key_bound hx ex
    obtain ⟨-, hi, -, -, -⟩ := read_number hx ex
    cases ey : Ieee.double.read y with
    | nan s t => rw [ey] at ny; cases ny
    | infinity t =>
      simp only [Datum.order, key]
      generalize big = B at *
      cases t
      · simp only [compare, compareOfLessAndEq, Bool.false_eq_true, if_false]
        rw [if_pos (by omega)]
      · simp only [compare, compareOfLessAndEq, if_true]
        rw [if_neg (by omega), if_neg (by omega)]
    | number t n j =>
      obtain ⟨-, hj, -, -, -⟩ := read_number hy ey
      simp only [Datum.order, key]
      have e1 : (i + 1074).toNat = (i - min i j).toNat + (min i j + 1074).toNat := by omega
      have e2 : (j + 1074).toNat = (j - min i j).toNat + (min i j + 1074).toNat := by omega
      rw [e1, e2, signed_add, signed_add, compare_mul _ _ _ (by have := Nat.two_pow_pos (min i j + 1074).toNat; omega)]
end Go.Proofs.YtikgicepdalfpaaGreat.W.Sf
/- Plain facts on words of IEEE 754 of 32 bits, and on their way to 64 bits and back. -/
namespace Go.Proofs.YtikgicepdalfpaaGreat.W.Sf
open Ieee

theorem S_sign : Ieee.single.signWeight = 2147483648 := by decide
theorem S_bin : Ieee.single.binade = 8388608 := by decide
theorem S_inf : Ieee.single.infRung = 2139095040 := by decide
theorem S_least : Ieee.single.leastPlace = -149 := by decide
theorem wordS_eq (s : Bool) (r : Nat) : Ieee.single.word s r = (if s then 2147483648 else 0) + r := by
  unfold Format.word
  rw [S_sign]
  cases s <;> simp
theorem readS_eq (x : Nat) : Ieee.single.read x =
    if x % 2147483648 < 8388608 then .number (x / 2147483648 % 2 == 1) (x % 2147483648) (-149)
    else if x % 2147483648 < 2139095040 then
      .number (x / 2147483648 % 2 == 1) (8388608 + x % 2147483648 % 8388608) (-149 + (x % 2147483648 / 8388608 - 1 : Nat))
    else if x % 2147483648 = 2139095040 then .infinity (x / 2147483648 % 2 == 1)
    else .nan (x / 2147483648 % 2 == 1) (x % 2147483648 - 2139095040) := by
  unfold Format.read
  simp only [S_sign, S_bin, S_inf, S_least]
theorem readS_number {x : Nat} {s : Bool} {m : Nat} {p : Int} (hx : x < 4294967296) (h : Ieee.single.read x = .number s m p) :
    m < 16777216 ∧ -149 ≤ p ∧ p ≤ 104 ∧ (8388608 ≤ m ∨ p = -149) ∧ x = (if s then 2147483648 else 0) + ((p + 149).toNat * 8388608 + m) := by
  rw [readS_eq] at h
  have hs : (if (x / 2147483648 % 2 == 1) = true then 2147483648 else 0) = x / 2147483648 * 2147483648 := by
    by_cases g : x / 2147483648 % 2 = 1
    · simp [g]; omega
    · simp [g]; omega
  split at h
  · cases h
    refine ⟨by omega, by omega, by omega, Or.inr rfl, ?_⟩
    rw [hs]; omega
  · split at h
    · cases h
      refine ⟨by omega, by omega, by omega, Or.inl (by omega), ?_⟩
      rw [hs]; omega
    · split at h <;> cases h
theorem writeS_read {x : Nat} {s : Bool} {m : Nat} {p : Int} (hx : x < 4294967296) (h : Ieee.single.read x = .number s m p) : Ieee.single.nearest s m p = x := by
  obtain ⟨h1, h2, h3, h4, h5⟩ := readS_number hx h
  unfold Format.nearest
  by_cases h0 : m = 0
  · subst h0
    rw [if_pos rfl, wordS_eq, h5]
    have : p = -149 := by omega
    subst this
    simp
  · rw [if_neg h0]
    have hl : m.log2 ≤ 23 := by
      have : m.log2 < 24 := (Nat.log2_lt h0).2 (by omega)
      omega
    have hL : max (p + (m.log2 : Nat) - ((Ieee.single.fractionBits : Nat) : Int)) Ieee.single.leastPlace = p := by
      rw [S_least]
      show max (p + (m.log2 : Nat) - 23) (-149) = p
      rcases h4 with h4 | h4
      · have : 23 ≤ m.log2 := (Nat.le_log2 h0).2 (by omega)
        omega
      · omega
    simp only [hL]
    rw [cut_even]
    simp only [Int.sub_self, Int.toNat_zero, Nat.shiftLeft_zero, Nat.pow_zero, cutE_one, S_least, S_bin, S_inf, wordS_eq]
    rw [h5, show p - -149 = p + 149 from by omega, Nat.min_eq_left (by omega)]
theorem writeS_inf {x : Nat} {s : Bool} (hx : x < 4294967296) (h : Ieee.single.read x = .infinity s) : Ieee.single.write (.infinity s) = x := by
  have e : Ieee.single.write (.infinity s) = Ieee.single.word s Ieee.single.infRung := rfl
  rw [e, wordS_eq, S_inf]
  rw [readS_eq] at h
  split at h
  · cases h
  · split at h
    · cases h
    · split at h
      · rename_i h1 h2 h3
        cases h
        by_cases g : x / 2147483648 % 2 = 1
        · simp [g]; omega
        · simp [g]; omega
      · cases h

/-- a number of 32 bits is a double -/
theorem wide_fin {x : Nat} (hx : x < 4294967296) (s : Bool) (m : Nat) (p : Int) (h : Ieee.single.read x = .number s m p) : (Ieee.double.read (Ieee.double.write (.number s m p))).isInfinity = false := by
  obtain ⟨h1, h2, h3, -, -⟩ := readS_number hx h
  obtain ⟨m', p', e, -, -, -⟩ := read_nearest s m p (by omega) (by omega) (by omega)
  have e' : Ieee.double.read (Ieee.double.write (.number s m p)) = .number s m' p' := e
  rw [e']; rfl
theorem wideI_nan (n : Int) : nanB (wideI n) = (Ieee.single.read n.toNat).isNaN := by
  unfold wideI
  cases h : (Ieee.single.read n.toNat).isNaN with
  | true => simp [nanB]
  | false => simp [write_plain _ h]
theorem read_inf (s : Bool) : Ieee.double.read (Ieee.double.write (.infinity s)) = .infinity s := by cases s <;> decide +kernel
/-- there and back -/
theorem narrow_wide (n : Int) (h1 : n < 4294967296) (hn : (Ieee.single.read n.toNat).isNaN = false) : floatToFloatBits .f64 (wideI n).toNat .f32 = some n.toNat := by
  have hx : n.toNat < 4294967296 := by omega
  have e0 : (wideI n).toNat = Ieee.double.write (Ieee.single.read n.toNat) := by
    unfold wideI; rw [hn]; simp
  rw [e0]
  unfold floatToFloatBits
  rw [if_neg (by decide)]
  show (match Ieee.double.read (Ieee.double.write (Ieee.single.read n.toNat)) with
    | .nan _ _ => none
    | .infinity s => some (Ieee.single.write (.infinity s))
    | .number s m e => if (Ieee.single.read (Ieee.single.write (.number s m e))).isInfinity then none else some (Ieee.single.write (.number s m e))) = some n.toNat
  cases h : Ieee.single.read n.toNat with
  | nan s t => rw [h] at hn; cases hn
  | infinity s => rw [read_inf]; simp only; rw [writeS_inf hx h]
  | number s m p =>
    obtain ⟨g1, g2, g3, -, -⟩ := readS_number hx h
    obtain ⟨m', p', e, q1, q2, q3⟩ := read_nearest s m p (by omega) (by omega) (by omega)
    have e' : Ieee.double.read (Ieee.double.write (.number s m p)) = .number s m' p' := e
    rw [e']
    have e2 : Ieee.single.write (.number s m' p') = n.toNat := by
      show Ieee.single.nearest s m' p' = n.toNat
      rw [← writeS_read hx h]
      refine nearest_same Ieee.single s m' m p' p p' (by omega) q2 ?_
      rw [q3]; simp
    simp only [e2, h]
    rfl
end Go.Proofs.YtikgicepdalfpaaGreat.W.Sf
/- Package soft's FromInt, Wide and Narrow, beside Plain. -/
namespace Go.Proofs.YtikgicepdalfpaaGreat.W.Sf
open Go.ChangeShapes Go.WideShapes Go.RowKit
set_option linter.unusedVariables false
theorem ret_bool {a b : Bool} (h : a = b) : Ending.returned (.bool a) = .returned (.bool b) := by rw [h]
theorem ret_int {k : IntKind} {a b : Int} (h : a = b) : Ending.returned (.int k a) = .returned (.int k b) := by rw [h]
theorem ret_float {k : FloatKind} {a b : Nat} (h : a = b) : Ending.returned (.float k a) = .returned (.float k b) := by rw [h]
theorem run_frombits64 (n : Int) (w : World) : (callFunc 140 #[.int .u64 n]).run Tryz.prog w = .ok (.value (.float .f64 n.toNat)) w := by
  rw [run_callFunc_extern Tryz.func140 (e := Extern.MathFloatBits.float64frombits) (by kernel_rfl) (by kernel_rfl) (by kernel_rfl) (by kernel_rfl)]
  rfl
theorem run_bits64 (x : Nat) (w : World) : (callFunc 139 #[.float .f64 x]).run Tryz.prog w = .ok (.value (.int .u64 (x : Nat))) w := by
  rw [run_callFunc_extern Tryz.func139 (e := Extern.MathFloatBits.float64bits) (by kernel_rfl) (by kernel_rfl) (by kernel_rfl) (by kernel_rfl)]
  rfl
set_option maxHeartbeats 400000 in
theorem double_c (n : Int) (w : World) :
    Calls Tryz.prog 127 #[.int .u64 n] w fun e w' => e = .returned (.float .f64 n.toNat) ∧ w' = w := by
  have hx := run_frombits64 n
  go_enter Tryz.func127, Tryz.ntmps127
  go_wp2
  go_ret
  exact ⟨rfl, rfl⟩
set_option maxHeartbeats 400000 in
theorem isNaN_f (x : Nat) (w : World) :
    Calls Tryz.prog 128 #[.float .f64 x] w fun e w' => e = .returned (.bool (nanB (x : Nat))) ∧ w' = w := by
  go_enter Tryz.func128, Tryz.ntmps128
  go_wp2
  go_ret
  exact ⟨ret_bool (isNaN_eq x), rfl⟩
set_option maxHeartbeats 400000 in
theorem pattern_c (x : Nat) (w : World) :
    Calls Tryz.prog 125 #[.float .f64 x] w fun e w' => e = .returned (.int .u64 (fltW (x : Nat))) ∧ w' = w := by
  have hx := run_bits64 x
  cases hn : nanB (x : Nat) with
  | true =>
    go_enter Tryz.func125, Tryz.ntmps125
    go_wp2_with (go_at_call 128; refine (isNaN_f _ _).mono ?_; rintro e w' ⟨rfl, rfl⟩)
    go_ret
    exact ⟨ret_int (by simp [fltW, hn]), rfl⟩
  | false =>
    go_enter Tryz.func125, Tryz.ntmps125
    go_wp2_with (go_at_call 128; refine (isNaN_f _ _).mono ?_; rintro e w' ⟨rfl, rfl⟩)
    go_ret
    exact ⟨ret_int (by simp [fltW, hn]), rfl⟩
/-- what FromInt answers -/
def fromI (i : Int) : Int := (floatOfInt .f64 i : Nat)
theorem fromI_range (i : Int) : 0 ≤ fromI i ∧ fromI i < 18446744073709551616 := by
  have : floatOfInt .f64 i < 18446744073709551616 := write_lt (.number (i < 0) i.natAbs 0)
  unfold fromI; omega
theorem fromI_plain (i : Int) : fltW (floatOfInt .f64 i : Nat) = fromI i := by
  have : nanB (floatOfInt .f64 i : Nat) = false := nearest_plain _ _ _
  simp [fltW, this, fromI]
set_option maxHeartbeats 800000 in
theorem softFromInt_c (i : Int) (w : World) :
    Calls Tryz.prog 124 #[.int .i64 i] w fun e w' => e = .returned (.int .u64 (fromI i)) ∧ w' = w := by
  go_enter Tryz.func124, Tryz.ntmps124
  go_wp2_with (go_at_call 125; refine (pattern_c _ _).mono ?_; rintro e w' ⟨rfl, rfl⟩)
  go_ret
  exact ⟨ret_int (fromI_plain i), rfl⟩
theorem run_frombits32 (n : Int) (w : World) : (callFunc 126 #[.int .u32 n]).run Tryz.prog w = .ok (.value (.float .f32 n.toNat)) w := by
  rw [run_callFunc_extern Tryz.func126 (e := Extern.MathFloatBits.float32frombits) (by kernel_rfl) (by kernel_rfl) (by kernel_rfl) (by kernel_rfl)]
  rfl
theorem run_bits32 (x : Nat) (w : World) : (callFunc 129 #[.float .f32 x]).run Tryz.prog w = .ok (.value (.int .u32 (x : Nat))) w := by
  rw [run_callFunc_extern Tryz.func129 (e := Extern.MathFloatBits.float32bits) (by kernel_rfl) (by kernel_rfl) (by kernel_rfl) (by kernel_rfl)]
  rfl
set_option maxHeartbeats 800000 in
theorem softWide_c (n : Int) (h1 : n < 4294967296) (w : World) :
    Calls Tryz.prog 88 #[.int .u32 n] w fun e w' => e = .returned (.int .u64 (wideI n)) ∧ ∃ m, w' = w.drewN m := by
  have hb := run_frombits32 n
  have hcv := fun w => run_wide Tryz.prog 153 152 n.toNat (by rw [Tryz.underlying153]; rfl) Tryz.underlying152 (wide_fin (by omega)) w
  go_enter Tryz.func88, Tryz.ntmps88
  go_wp2_with (go_at_call 125; refine (pattern_c _ _).mono ?_; rintro e w' ⟨rfl, rfl⟩)
  go_ret
  exact ⟨ret_int (fltW_wres n _), _, rfl⟩
set_option maxHeartbeats 800000 in
theorem softNarrow_in (a : Int) (r : Nat) (h0 : 0 ≤ a) (hn : nanB a = false) (hr : floatToFloatBits .f64 a.toNat .f32 = some r) (w : World) :
    Calls Tryz.prog 90 #[.int .u64 a] w fun e w' => e = .returned (.int .u32 (r : Nat)) ∧ w' = w := by
  have hb := run_bits32 r
  have hcv : ∀ w, (convert 152 153 (.float .f64 a.toNat)).run Tryz.prog w = .ok (.float .f32 r) w := fun w => run_convert_float_float w 152 153 .f64 .f32 a.toNat r (by rw [Tryz.underlying152]; rfl) Tryz.underlying153 hr
  have hn' : nanB ((a.toNat : Nat) : Int) = false := by rw [Int.toNat_of_nonneg h0]; exact hn
  go_enter Tryz.func90, Tryz.ntmps90
  go_wp2_with (first | (go_at_call 127; refine (double_c _ _).mono ?_; rintro e w' ⟨rfl, rfl⟩) | (go_at_call 128; refine (isNaN_f _ _).mono ?_; rw [hn']; rintro e w' ⟨rfl, rfl⟩))
  go_ret
  exact ⟨rfl, rfl⟩
theorem bel_drewN (w : World) (m : Nat) : Below w.heap.size w (w.drewN m) := ⟨rfl, rfl, rfl, Nat.le_refl _, fun _ _ => rfl⟩
theorem one_fromI : fromI 1 = 4607182418800017408 := by decide +kernel
theorem wide_nought : wideI 0 = 0 := by decide +kernel
theorem wide_one : wideI 1065353216 = 4607182418800017408 := by decide +kernel
theorem narrow_one (w : World) : Calls Tryz.prog 90 #[.int .u64 4607182418800017408] w fun e w' => e = .returned (.int .u32 ((1065353216 : Nat) : Int)) ∧ w' = w := softNarrow_in 4607182418800017408 1065353216 (by decide) (by decide) (by decide +kernel) w
end Go.Proofs.YtikgicepdalfpaaGreat.W.Sf
/- Package soft's Narrow, of whatever pattern: beyond the range of 32 bits some pattern of 32 bits. -/
namespace Go.Proofs.YtikgicepdalfpaaGreat.W.Sf
open Go.ChangeShapes Go.WideShapes Go.RowKit
set_option linter.unusedVariables false
theorem conv_any (x : Nat) (hx : x < 18446744073709551616) (hn : nanB ((x : Nat) : Int) = false) (w : World) :
    ∃ r m : Nat, r < 4294967296 ∧ (convert 152 153 (.float .f64 x)).run Tryz.prog w = .ok (.float .f32 r) (w.drewN m) := by
  cases h : floatToFloatBits .f64 x .f32 with
  | some r =>
    refine ⟨r, 0, ?_, by rw [World.drewN_zero]; exact run_convert_float_float w 152 153 .f64 .f32 x r (by rw [Tryz.underlying152]; rfl) Tryz.underlying153 h⟩
    have := floatToFloatBits_wf (src := .f64) (dst := .f32) (bits := x) (by simp [Lit.wf]; omega) h
    simpa [Lit.wf] using this
  | none =>
    unfold floatToFloatBits at h
    rw [if_neg (by decide)] at h
    split at h
    · rename_i e
      have := nan_read x
      rw [hn] at this
      have e' : Ieee.double.read x = _ := e
      rw [e'] at this
      cases this
    · cases h
    · rename_i s m e he
      split at h
      · rename_i hi
        refine ⟨(w.tape w.drawn (.floatToFloat x)) % 4294967296, 1, Nat.mod_lt _ (by decide), ?_⟩
        have hu : Tryz.prog.underlying 152 = some (.float .f64) := Tryz.underlying152
        simp [convert, run_underlying hu, run_underlying Tryz.underlying153, Conv.floatToFloat, he, hi, World.drewN, Question.forced, Question.cut]
      · cases h
set_option maxHeartbeats 800000 in
theorem softNarrow_any (a : Int) (h0 : 0 ≤ a) (h1 : a < 18446744073709551616) (w : World) :
    Calls Tryz.prog 90 #[.int .u64 a] w fun e w' => ∃ r m : Nat, e = .returned (.int .u32 (r : Nat)) ∧ r < 4294967296 ∧ (nanB a = true → r = 2143289344) ∧ w' = w.drewN m := by
  have ea : ((a.toNat : Nat) : Int) = a := Int.toNat_of_nonneg h0
  cases hn : nanB a with
  | true =>
    have hn' : nanB ((a.toNat : Nat) : Int) = true := by rw [ea]; exact hn
    have fin := hid (show ∃ r m : Nat, (2143289344 : Int) = (r : Nat) ∧ r < 4294967296 ∧ (true = true → r = 2143289344) ∧ w = w.drewN m from ⟨2143289344, 0, rfl, by decide, fun _ => rfl, (World.drewN_zero w).symm⟩)
    clear hn h0 h1 ea
    go_enter Tryz.func90, Tryz.ntmps90
    go_wp2_with (first | (go_at_call 127; refine (double_c _ _).mono ?_; rintro e w' ⟨rfl, rfl⟩) | (go_at_call 128; refine (isNaN_f _ _).mono ?_; rw [hn']; rintro e w' ⟨rfl, rfl⟩))
    go_ret
    obtain ⟨r, m, e1, e2⟩ := fin.out
    exact ⟨r, m, ret_int e1, e2⟩
  | false =>
    have hn' : nanB ((a.toNat : Nat) : Int) = false := by rw [ea]; exact hn
    obtain ⟨r, m, hr, hcv⟩ := conv_any a.toNat (by omega) hn' w
    have hb := run_bits32 r
    have fin := hid (And.intro hr (show false = true → r = 2143289344 from fun h => by cases h))
    clear hn h0 h1 ea hr
    go_enter Tryz.func90, Tryz.ntmps90
    go_wp2_with (first | (go_at_call 127; refine (double_c _ _).mono ?_; rintro e w' ⟨rfl, rfl⟩) | (go_at_call 128; refine (isNaN_f _ _).mono ?_; rw [hn']; rintro e w' ⟨rfl, rfl⟩))
    go_ret
    exact ⟨r, m, rfl, fin.out.1, fin.out.2, rfl⟩
end Go.Proofs.YtikgicepdalfpaaGreat.W.Sf
/- Package buf: what a narrow is stored by. -/
namespace Go.Proofs.YtikgicepdalfpaaGreat.W
open Go.ChangeShapes Go.WideShapes Go.RowKit Go.Shelf
set_option linter.unusedVariables false
section
variable {W W' : World} {hb sb : Nat} {vc : Value} {T : Nat → Prop} {H : List (Option Hc)} {u h : Nat}
theorem narrows2_c {w : Nat} {k2 : Int} {t p n Br Bw : Nat} {bs : List Nat} (g : HLay W hb sb vc T H u h) (s : Spot H w 6 t p n k2 bs) (r : PairAt W Br Bw hb w 4) (i : Nat) (hi : i * 4 + 4 ≤ n) (ha : (p + i * 4) % 4 = 0) (xw vk va vb vr : Int) (vt : ByteArray) (x : Nat) (b : Int) (hx64 : x < 18446744073709551616) (cn : ∀ w, Calls Tryz.prog 90 #[.int .u64 b] w fun e w' => e = .returned (.int .u32 (x : Nat)) ∧ Below w.heap.size w w') (ci : ∀ w, Calls Tryz.prog 86 #[.agg #[.int .i64 vk, .int .i64 va, .int .u64 vb, .string vt, .int .u64 vr]] w fun e w' => e = .returned (.tuple #[.int .u64 b, .int .i64 0]) ∧ Below w.heap.size w w') :
    Calls Tryz.prog 89 #[.int .i64 i, .int .u64 xw, .agg #[.int .i64 vk, .int .i64 va, .int .u64 vb, .string vt, .int .u64 vr], .pointer (some ⟨Bw, 0, none⟩)] W fun e w' => e = .returned (.int .i64 0) ∧ Upd T W w' ∧ HLay w' hb sb vc T (H.set t (some (.buf k2 (saved bs (p + i * 4) x 4)))) u h := by
  have hB1 : Below W.heap.size W (W.alloc (.cells #[.int .i64 vk, .int .i64 va, .int .u64 vb, .string vt, .int .u64 vr] 33)) := (Below.refl _ W).alloc (Nat.le_refl _) _
  have e1 := World.cell?_alloc_new W #[.int .i64 vk, .int .i64 va, .int .u64 vb, .string vt, .int .u64 vr] 33
  obtain ⟨Bh, Bx, Bd, hR, hr, hw⟩ := r.ex
  have hv : ∀ w2, Below W.heap.size W w2 → w2.cell? ⟨Bw, 0, none⟩ = some (.func (.func 122) #[] #[.pointer (some ⟨Bh, 0, none⟩), .pointer (some ⟨Bx, 0, none⟩), .pointer (some ⟨Bd, 0, none⟩)]) ∧ Calls Tryz.prog 122 #[.int .i64 i, .int .u64 (x : Nat), .pointer (some ⟨Bh, 0, none⟩), .pointer (some ⟨Bx, 0, none⟩), .pointer (some ⟨Bd, 0, none⟩)] w2 fun e w' => e = .returned (.int .i64 0) ∧ Hid (Upd T W w' ∧ HLay w' hb sb vc T (H.set t (some (.buf k2 (saved bs (p + i * 4) x 4)))) u h) := by
    intro w2 hB2
    refine ⟨(box_of (hB2.block _ hw.lt) hw).cell, (raw2_c (g.below hB2) s (hR.below hB2) (.inr (.inr (.inl rfl))) i hi ha _ hx64).mono ?_⟩
    rintro e w' ⟨rfl, hU, hL⟩
    exact ⟨rfl, (Upd.of_below hB2).trans' hU, hL⟩
  generalize (H.set t (some (.buf k2 (saved bs (p + i * 4) x 4)))) = HH at *
  have hcx : IntKind.u64.wrap ((x : Nat) : Int) = ((x : Nat) : Int) := by rw [IntKind.wrap_u64]; omega
  have HV := hid hv
  have HB1 := hid hB1
  clear g s r hi ha hx64 hv hB1 hR hr hw
  go_enter Tryz.func89, Tryz.ntmps89
  go_upto_region 4 with (go_at_call 86; (with_reducible refine (ci _).mono ?_); rintro e w2 ⟨rfl, hB2⟩; clear ci)
  have hB12 := HB1.out.trans (hB2.mono HB1.out.size)
  have hBd : Below W.heap.size W w2.drew := ⟨hB12.os, hB12.tape, hB12.output, hB12.size, hB12.block⟩
  have x1 := (HV.out w2 hB12).1
  have HD := hid hBd
  clear hBd hB12 hB2
  go_region_with (first | (go_at_call 90; (with_reducible refine (cn _).mono ?_); rintro e w3 ⟨rfl, hB3⟩; (obtain ⟨x3, cv⟩ := HV.out w3 (HD.out.trans (hB3.mono HD.out.size)))) | (go_at_call 122; (with_reducible refine cv.mono ?_); rintro e w4 ⟨rfl, hf⟩; clear cv))
  all_goals (
    go_wp2
    go_ret
    exact ⟨rfl, hf.out.1, hf.out.2⟩)
end
end Go.Proofs.YtikgicepdalfpaaGreat.W
/- Package buf: what a narrow is stored by, whatever Narrow answers. -/
namespace Go.Proofs.YtikgicepdalfpaaGreat.W
open Go.ChangeShapes Go.WideShapes Go.RowKit Go.Shelf
set_option linter.unusedVariables false
section
variable {W W' : World} {hb sb : Nat} {vc : Value} {T : Nat → Prop} {H : List (Option Hc)} {u h : Nat}
theorem narrows2_any (P : Nat → Prop) {w : Nat} {k2 : Int} {t p n Br Bw : Nat} {bs : List Nat} (g : HLay W hb sb vc T H u h) (s : Spot H w 6 t p n k2 bs) (r : PairAt W Br Bw hb w 4) (i : Nat) (hi : i * 4 + 4 ≤ n) (ha : (p + i * 4) % 4 = 0) (xw vk va vb vr : Int) (vt : ByteArray) (b : Int) (cn : ∀ w, Calls Tryz.prog 90 #[.int .u64 b] w fun e w' => ∃ x : Nat, e = .returned (.int .u32 (x : Nat)) ∧ x < 4294967296 ∧ P x ∧ Below w.heap.size w w') (ci : ∀ w, Calls Tryz.prog 86 #[.agg #[.int .i64 vk, .int .i64 va, .int .u64 vb, .string vt, .int .u64 vr]] w fun e w' => e = .returned (.tuple #[.int .u64 b, .int .i64 0]) ∧ Below w.heap.size w w') :
    Calls Tryz.prog 89 #[.int .i64 i, .int .u64 xw, .agg #[.int .i64 vk, .int .i64 va, .int .u64 vb, .string vt, .int .u64 vr], .pointer (some ⟨Bw, 0, none⟩)] W fun e w' => e = .returned (.int .i64 0) ∧ ∃ x : Nat, x < 4294967296 ∧ P x ∧ Upd T W w' ∧ HLay w' hb sb vc T (H.set t (some (.buf k2 (saved bs (p + i * 4) x 4)))) u h := by
  have hB1 : Below W.heap.size W (W.alloc (.cells #[.int .i64 vk, .int .i64 va, .int .u64 vb, .string vt, .int .u64 vr] 33)) := (Below.refl _ W).alloc (Nat.le_refl _) _
  have e1 := World.cell?_alloc_new W #[.int .i64 vk, .int .i64 va, .int .u64 vb, .string vt, .int .u64 vr] 33
  obtain ⟨Bh, Bx, Bd, hR, hr, hw⟩ := r.ex
  have hv : ∀ w2, Below W.heap.size W w2 → w2.cell? ⟨Bw, 0, none⟩ = some (.func (.func 122) #[] #[.pointer (some ⟨Bh, 0, none⟩), .pointer (some ⟨Bx, 0, none⟩), .pointer (some ⟨Bd, 0, none⟩)]) ∧ ∀ x : Nat, x < 4294967296 → Calls Tryz.prog 122 #[.int .i64 i, .int .u64 (x : Nat), .pointer (some ⟨Bh, 0, none⟩), .pointer (some ⟨Bx, 0, none⟩), .pointer (some ⟨Bd, 0, none⟩)] w2 fun e w' => e = .returned (.int .i64 0) ∧ Hid (Upd T W w' ∧ HLay w' hb sb vc T (H.set t (some (.buf k2 (saved bs (p + i * 4) x 4)))) u h) := by
    intro w2 hB2
    refine ⟨(box_of (hB2.block _ hw.lt) hw).cell, fun x hx => (raw2_c (g.below hB2) s (hR.below hB2) (.inr (.inr (.inl rfl))) i hi ha _ (by omega)).mono ?_⟩
    rintro e w' ⟨rfl, hU, hL⟩
    exact ⟨rfl, (Upd.of_below hB2).trans' hU, hL⟩
  have HV := hid hv
  have HB1 := hid hB1
  clear g s r hi ha hv hB1 hR hr hw
  go_enter Tryz.func89, Tryz.ntmps89
  go_upto_region 4 with (go_at_call 86; (with_reducible refine (ci _).mono ?_); rintro e w2 ⟨rfl, hB2⟩; clear ci)
  have hB12 := HB1.out.trans (hB2.mono HB1.out.size)
  have hBd : Below W.heap.size W w2.drew := ⟨hB12.os, hB12.tape, hB12.output, hB12.size, hB12.block⟩
  have x1 := (HV.out w2 hB12).1
  have HD := hid hBd
  clear hBd hB12 hB2
  go_region_with (first | (go_at_call 90; (with_reducible refine (cn _).mono ?_); rintro e w3 ⟨x, rfl, hx, hPx, hB3⟩; (obtain ⟨x3, cv'⟩ := HV.out w3 (HD.out.trans (hB3.mono HD.out.size))); (have cv := cv' x hx); (have hcx : IntKind.u64.wrap ((x : Nat) : Int) = ((x : Nat) : Int) := by rw [IntKind.wrap_u64]; omega); (have PX := hid (And.intro hx hPx)); clear cv' hx hPx) | (go_at_call 122; (with_reducible refine cv.mono ?_); rintro e w4 ⟨rfl, hf⟩; clear cv))
  all_goals (
    go_wp2
    go_ret
    exact ⟨rfl, x, PX.out.1, PX.out.2, hf.out.1, hf.out.2⟩)
end
end Go.Proofs.YtikgicepdalfpaaGreat.W
/- Package buf: fits, View. -/
namespace Go.Proofs.YtikgicepdalfpaaGreat.W
open Go.ChangeShapes Go.WideShapes Go.RowKit Go.Shelf
set_option linter.unusedVariables false
theorem fits_ar1 (E p f : Nat) (hk : E > 0) (hE : E ≤ 8) (ha : (p + f) % E = 0) : Int.tmod (p : Int) (E : Int) = ((p % E : Nat) : Int) ∧ Int.tmod (f : Int) (E : Int) = ((f % E : Nat) : Int) ∧ IntKind.i64.wrap (((p % E : Nat) : Int) + ((f % E : Nat) : Int)) = ((p % E + f % E : Nat) : Int) ∧ wrap64 (((p % E : Nat) : Int) + ((f % E : Nat) : Int)) = ((p % E + f % E : Nat) : Int) ∧ Int.tmod ((p % E + f % E : Nat) : Int) (E : Int) = 0 := by
  have l1 : p % E < E := Nat.mod_lt _ hk
  have l2 : f % E < E := Nat.mod_lt _ hk
  refine ⟨?_, ?_, ?_, ?_, ?_⟩
  · rw [Int.tmod_eq_emod_of_nonneg (Int.natCast_nonneg p)]; exact (Int.natCast_emod p E).symm
  · rw [Int.tmod_eq_emod_of_nonneg (Int.natCast_nonneg f)]; exact (Int.natCast_emod f E).symm
  · generalize p % E = a at *
    generalize f % E = b at *
    rw [IntKind.wrap_i64]; omega
  · generalize p % E = a at *
    generalize f % E = b at *
    unfold wrap64; omega
  · rw [Int.tmod_eq_emod_of_nonneg (Int.natCast_nonneg _), ← Int.natCast_emod, ← Nat.add_mod, ha]; rfl
theorem fits_ar2 (E S f n : Nat) (hS : S ≤ 8388608) (hf : f ≤ S) (hn : n ≤ (S - f) / E) : IntKind.i64.wrap ((S : Int) - f) = ((S - f : Nat) : Int) ∧ wrap64 ((S : Int) - f) = ((S - f : Nat) : Int) ∧ Int.tdiv ((S - f : Nat) : Int) (E : Int) = (((S - f) / E : Nat) : Int) ∧ wrap64 (((S - f) / E : Nat) : Int) = (((S - f) / E : Nat) : Int) ∧ IntKind.i64.wrap (((S - f) / E : Nat) : Int) = (((S - f) / E : Nat) : Int) ∧ ¬ (n : Int) > (((S - f) / E : Nat) : Int) := by
  have hQ : (S - f) / E ≤ 8388608 := by have := Nat.div_le_self (S - f) E; omega
  refine ⟨?_, ?_, ?_, ?_, ?_, ?_⟩
  · rw [IntKind.wrap_i64]; omega
  · unfold wrap64; omega
  · rw [Int.tdiv_eq_ediv_of_nonneg (Int.natCast_nonneg _)]; exact (Int.natCast_ediv _ E).symm
  · generalize (S - f) / E = a at *
    unfold wrap64; omega
  · generalize (S - f) / E = a at *
    rw [IntKind.wrap_i64]; omega
  · generalize (S - f) / E = a at *
    omega
section
variable {W0 W W1 W' : World} {hb : Nat} {H : List (Option Hc)} {u : Nat} {K : Nat → Prop}
set_option maxRecDepth 100000 in
set_option maxHeartbeats 1000000 in
theorem fits_c (kd : Int) (hkd : elB kd > 0) (vw : Bool) (ob ow : Option Addr) (bl bc wl wc ba p : Nat) (ln : Int) (m : Nat) (hcnt : ∀ W, Calls Tryz.prog 45 #[.agg #[.int .i64 kd, .bool vw, .int .i64 0, .string ⟨#[]⟩, .slice ob bl bc, .slice ow wl wc, .int .u64 ba, .int .i64 p, .int .i64 ln]] W fun e w' => e = .returned (.int .i64 (m : Nat)) ∧ Below W.heap.size W w') (k : Int) (hk : elB k > 0) (f n : Nat) (ha : (p + f) % elB k = 0) (hf : f ≤ m * elB kd) (hn : n ≤ (m * elB kd - f) / elB k) (hm : m * elB kd ≤ 8388608) (hp8 : p ≤ 8388608) (W : World) :
    Calls Tryz.prog 56 #[.agg #[.int .i64 kd, .bool vw, .int .i64 0, .string ⟨#[]⟩, .slice ob bl bc, .slice ow wl wc, .int .u64 ba, .int .i64 p, .int .i64 ln], .int .i64 k, .int .i64 f, .int .i64 n] W fun e w' => e = .returned (.int .i64 0) ∧ Below W.heap.size W w' := by
  have hB1 : Below W.heap.size W (W.alloc (.cells #[.int .i64 kd, .bool vw, .int .i64 0, .string ⟨#[]⟩, .slice ob bl bc, .slice ow wl wc, .int .u64 ba, .int .i64 p, .int .i64 ln] 50)) := (Below.refl _ W).alloc (Nat.le_refl _) _
  have f1 := World.alloc_heap_new W (.cells #[.int .i64 kd, .bool vw, .int .i64 0, .string ⟨#[]⟩, .slice ob bl bc, .slice ow wl wc, .int .u64 ba, .int .i64 p, .int .i64 ln] 50)
  have e1 := World.cell?_alloc_new W #[.int .i64 kd, .bool vw, .int .i64 0, .string ⟨#[]⟩, .slice ob bl bc, .slice ow wl wc, .int .u64 ba, .int .i64 p, .int .i64 ln] 50
  have cw := fun w => width_c k w
  have cw2 := fun w => width_c kd w
  have hke : elB k = 1 ∨ elB k = 2 ∨ elB k = 4 ∨ elB k = 8 := by rcases elB_cases k with h | h | h | h | h <;> omega
  have hms : ((m * elB kd : Nat) : Int) = (m : Int) * ((elB kd : Nat) : Int) := by simp
  have hmul : IntKind.i64.wrap ((m : Int) * ((elB kd : Nat) : Int)) = ((m * elB kd : Nat) : Int) := by rw [IntKind.wrap_i64, ← hms]; omega
  have hmul' : wrap64 ((m : Int) * ((elB kd : Nat) : Int)) = ((m * elB kd : Nat) : Int) := by unfold wrap64; rw [← hms]; omega
  clear hms
  generalize m * elB kd = S at *
  generalize ((elB kd : Nat) : Int) = EK at *
  generalize hE : elB k = E at *
  have e0 : ¬ ((E : Nat) : Int) = 0 := by omega
  have f0 : ¬ (f : Int) < 0 := by omega
  have n0 : ¬ (n : Int) < 0 := by omega
  have pw : IntKind.i64.wrap (p : Int) = p := by rw [IntKind.wrap_i64]; omega
  have Sw : IntKind.i64.wrap (S : Int) = S := by rw [IntKind.wrap_i64]; omega
  have s1 : ¬ (f : Int) > S := by omega
  obtain ⟨m1, m2, m3, m3', m4⟩ := fits_ar1 E p f hk (by omega) ha
  obtain ⟨s2, s2', s3, s4, s4', s5⟩ := fits_ar2 E S f n hm hf hn
  generalize (S - f) / E = QQ at *
  generalize S - f = DD at *
  generalize p % E + f % E = MM at *
  generalize p % E = M1 at *
  generalize f % E = M2 at *
  clear ha hf hn hm hp8 hke hk hkd hE
  go_enter Tryz.func56, Tryz.ntmps56
  go_upto_region 6 with (go_at_call 30; (with_reducible refine (cw _).mono ?_); rintro e w' ⟨rfl, hw⟩; (have hw' := hw.symm); subst hw'; clear hw)
  go_quiet (fail)
  go_upto_region 8 with fail
  generalize hWq : (W.alloc (.cells #[.int .i64 kd, .bool vw, .int .i64 0, .string ⟨#[]⟩, .slice ob bl bc, .slice ow wl wc, .int .u64 ba, .int .i64 p, .int .i64 ln] 50)).drewN nq = Wq at *
  have fq : Wq.heap[W.heap.size]? = some (.cells #[.int .i64 kd, .bool vw, .int .i64 0, .string ⟨#[]⟩, .slice ob bl bc, .slice ow wl wc, .int .u64 ba, .int .i64 p, .int .i64 ln] 50) := by rw [← hWq]; exact f1
  have hBq : Below W.heap.size W Wq := by rw [← hWq]; exact ⟨hB1.os, hB1.tape, hB1.output, hB1.size, hB1.block⟩
  clear hWq hB1 f1 e1
  refine wp_region_held_drew (S := fun w' => w'.heap[W.heap.size]? = some (.cells #[.int .i64 kd, .bool vw, .int .i64 0, .string ⟨#[]⟩, .slice ob bl bc, .slice ow wl wc, .int .u64 ba, .int .i64 p, .int .i64 ln] 50)) (by kernel_rfl) fq ?_
  intro hS
  (refine wpAnyH_take (i := 0) (v := ?_) rfl (by kernel_rfl) (by kernel_rfl) (by kernel_rfl) (fun _ _ _ h => h) (Or.inl ⟨by rfl, ?_⟩) hS ?_); rotate_left; (focus (intro w' hSw; (have ec := fun j => cell_of_row w' W.heap.size j _ _ _ hSw); go_simp; (try with_reducible rfl)))
  (refine wpAnyH_take (i := 2) (v := ?_) rfl (by kernel_rfl) (by kernel_rfl) (by kernel_rfl) (fun _ _ _ h => h) (Or.inl ⟨by rfl, ?_⟩) hS ?_); rotate_left; (focus (intro w' hSw; (have ec := fun j => cell_of_row w' W.heap.size j _ _ _ hSw); go_simp; (try with_reducible rfl)))
  (refine wpAnyH_take (i := 3) (v := ?_) rfl (by kernel_rfl) (by kernel_rfl) (by kernel_rfl) (fun _ _ _ h => h) (Or.inl ⟨by rfl, ?_⟩) hS ?_); rotate_left; (focus (intro w' hSw; (have ec := fun j => cell_of_row w' W.heap.size j _ _ _ hSw); go_simp; (try with_reducible rfl)))
  refine wpAnyH_ready (rs := [1]) (by kernel_rfl) (by simp) ?_
  refine AllReadyH.cons rfl (fun K hK => ?_) AllReadyH.nil
  go_simp
  refine (hcnt _).mono ?_
  rintro e w4 ⟨rfl, hB4⟩
  have f4 : w4.heap[W.heap.size]? = some (.cells #[.int .i64 kd, .bool vw, .int .i64 0, .string ⟨#[]⟩, .slice ob bl bc, .slice ow wl wc, .int .u64 ba, .int .i64 p, .int .i64 ln] 50) := (hB4.block _ (lt_get hS)).trans hS
  have hB4' : Below Wq.heap.size Wq w4 := ⟨hB4.os, hB4.tape, hB4.output, hB4.size, hB4.block⟩
  have hB5 : Below W.heap.size W w4 := hBq.trans (hB4'.mono hBq.size)
  refine hK.out _ _ f4 (fun _ => ?_)
  clear hK K hS fq hB4
  have hS := f4
  refine wpAnyH_ready (rs := [4]) (by kernel_rfl) (by simp) ?_
  refine AllReadyH.cons rfl (fun K hK => ?_) AllReadyH.nil
  go_simp
  refine (cw2 _).mono ?_
  rintro e w' ⟨rfl, hw⟩
  have hw' := hw.symm
  subst hw'
  clear hw
  refine hK.out _ _ hS (fun _ => ?_)
  clear hK K
  (refine wpAnyH_take (i := 5) (v := ?_) rfl (by kernel_rfl) (by kernel_rfl) (by kernel_rfl) (fun _ _ _ h => h) (Or.inl ⟨by rfl, ?_⟩) hS ?_); rotate_left; (focus (intro w' hSw; (have ec := fun j => cell_of_row w' W.heap.size j _ _ _ hSw); go_simp; (try with_reducible rfl)))
  (refine wpAnyH_take (i := 6) (v := ?_) rfl (by kernel_rfl) (by kernel_rfl) (by kernel_rfl) (fun _ _ _ h => h) (Or.inl ⟨by rfl, ?_⟩) hS ?_); rotate_left; (focus (intro w' hSw; (have ec := fun j => cell_of_row w' W.heap.size j _ _ _ hSw); go_simp; (try with_reducible rfl)))
  refine wpAnyH_done (by kernel_rfl) ?_ _
  (try simp only [Act.put, List.getElem_toArray, List.getElem_cons_zero, List.getElem_cons_succ, List.setIfInBounds_toArray, List.set_cons_zero, List.set_cons_succ])
  go_wp2
  go_ret
  exact ⟨rfl, hB5⟩
end
end Go.Proofs.YtikgicepdalfpaaGreat.W
/- Package buf: View, of a buffer. -/
namespace Go.Proofs.YtikgicepdalfpaaGreat.W
open Go.ChangeShapes Go.WideShapes Go.RowKit Go.Shelf
set_option linter.unusedVariables false
section
variable {W0 W W1 W' : World} {hb : Nat} {H : List (Option Hc)} {u : Nat} {K : Nat → Prop}
set_option maxRecDepth 100000 in
set_option maxHeartbeats 4000000 in
theorem view_false (q : Hf W0 W hb H u K) (w : Nat) (hw64 : w < 18446744073709551616) (kd : Int) (h9 : ¬ kd = 9) (bl wl ba p : Nat) (ln : Int) (xs : List Value) (hget : Calls Tryz.prog 44 #[.pointer (some ⟨hb, 0, none⟩), .int .u64 w] W (ThP W kd false bl wl ba p ln xs)) (k : Int) (f n : Nat)
    (hfits : ∀ ob ow bc wc W, Calls Tryz.prog 56 #[.agg #[.int .i64 kd, .bool false, .int .i64 0, .string ⟨#[]⟩, .slice ob bl bc, .slice ow wl wc, .int .u64 ba, .int .i64 p, .int .i64 ln], .int .i64 k, .int .i64 f, .int .i64 n] W fun e w' => e = .returned (.int .i64 0) ∧ Below W.heap.size W w')
    (pf : Nat) (hpf : p + f = pf) (hp8 : pf ≤ 8388608) (hn8 : n ≤ 8388608) (Q : World → Prop) (word : Nat) (orr : Option Addr) (capr : Nat) (rs : List Nat) (hr : WordsAt W (.slice orr rs.length capr) rs) (hrl : rs.length ≤ 900000)
    (hput : ∀ w9 v, Below W.heap.size W w9 → WordsAt w9 v (rs ++ [w]) → Calls Tryz.prog 15 #[.pointer (some ⟨hb, 0, none⟩), .agg #[.int .i64 k, .bool true, .int .i64 0, .string ⟨#[]⟩, .slice none 0 0, .slice none 0 0, .int .u64 (w : Nat), .int .i64 (pf : Nat), .int .i64 n], v] w9 fun e w' => e = .returned (.tuple #[.int .u64 (word : Nat), .int .i64 0]) ∧ Q w' ∧ ∀ b, W.heap.size ≤ b → b < w9.heap.size → w'.heap[b]? = w9.heap[b]?) :
    Calls Tryz.prog 29 #[.pointer (some ⟨hb, 0, none⟩), .int .u64 w, .int .i64 k, .int .i64 f, .int .i64 n, .slice orr rs.length capr] W fun e w' => e = .returned (.tuple #[.int .u64 (word : Nat), .int .i64 0]) ∧ Q w' := by
  have hfw : IntKind.i64.wrap (f : Int) = f := by rw [IntKind.wrap_i64]; omega
  have hnw : IntKind.i64.wrap (n : Int) = n := by rw [IntKind.wrap_i64]; omega
  have hpw : IntKind.i64.wrap ((p : Int) + (f : Int)) = (pf : Nat) := by rw [IntKind.wrap_i64]; omega
  have hpw' : wrap64 ((p : Int) + (f : Int)) = (pf : Nat) := by unfold wrap64; omega
  have HP := hid hput
  have HR := hid hr
  have HF := hid hfits
  have HLR := hid hrl
  have HW := hid hw64
  clear q hput hr hfits hp8 hn8 hpf hrl hw64
  generalize hrn : rs.length = rn at *
  go_enter Tryz.func29, Tryz.ntmps29
  go_upto_region 2 with (go_at_call 44; (with_reducible refine hget.mono ?_); rintro e w2 ⟨ob, bc, ow, wc, rfl, hB2, ho⟩; clear hget ho)
  have hf1 := HF.out ob ow bc wc
  have hB3 : Below w2.heap.size w2 (w2.alloc (.cells #[.int .i64 kd, .bool false, .int .i64 0, .string ⟨#[]⟩, .slice ob bl bc, .slice ow wl wc, .int .u64 ba, .int .i64 p, .int .i64 ln] 50)) := (Below.refl _ w2).alloc (Nat.le_refl _) _
  have f3 := World.alloc_heap_new w2 (.cells #[.int .i64 kd, .bool false, .int .i64 0, .string ⟨#[]⟩, .slice ob bl bc, .slice ow wl wc, .int .u64 ba, .int .i64 p, .int .i64 ln] 50)
  have e3 := World.cell?_alloc_new w2 #[.int .i64 kd, .bool false, .int .i64 0, .string ⟨#[]⟩, .slice ob bl bc, .slice ow wl wc, .int .u64 ba, .int .i64 p, .int .i64 ln] 50
  have hbel := hB2.trans (hB3.mono hB2.size)
  have hz2 := hB2.size
  generalize w2.alloc (.cells #[.int .i64 kd, .bool false, .int .i64 0, .string ⟨#[]⟩, .slice ob bl bc, .slice ow wl wc, .int .u64 ba, .int .i64 p, .int .i64 ln] 50) = w3 at *
  generalize w2.heap.size = B14 at *
  have kp : Hid (∀ w4, Below w3.heap.size w3 w4 → (∀ j, w4.cell? ⟨B14, j, none⟩ = #[.int .i64 kd, .bool false, .int .i64 0, .string ⟨#[]⟩, .slice ob bl bc, .slice ow wl wc, .int .u64 ba, .int .i64 p, .int .i64 ln][j]?) ∧ Below W.heap.size W w4) := by
    show ∀ w4, _
    intro w4 hB4
    exact ⟨fun j => (World.cell?_of_block (hB4.block B14 (lt_get f3))).trans (e3 j), hbel.trans (hB4.mono hbel.size)⟩
  have hf3 := hf1 w3
  clear hB2 hB3 hbel f3 hf1 hz2
  go_upto_region 13 with (go_at_call 56; (with_reducible refine hf3.mono ?_); rintro e w4 ⟨rfl, hB4⟩; clear hf3; (obtain ⟨e4, hbel4⟩ := kp.out w4 hB4); (have HBe := hid hbel4); clear hbel4 hB4 kp e3)
  have hB6 : Below w4.heap.size w4 (w4.alloc (.cells #[.int .i64 k, .bool true, .int .i64 0, .string ⟨#[]⟩, .slice none 0 0, .slice none 0 0, .int .u64 (w : Nat), .int .i64 (pf : Nat), .int .i64 n] 50)) := (Below.refl _ w4).alloc (Nat.le_refl _) _
  have f6 := World.alloc_heap_new w4 (.cells #[.int .i64 k, .bool true, .int .i64 0, .string ⟨#[]⟩, .slice none 0 0, .slice none 0 0, .int .u64 (w : Nat), .int .i64 (pf : Nat), .int .i64 n] 50)
  have hbel6 := HBe.out.trans (hB6.mono HBe.out.size)
  generalize w4.alloc (.cells #[.int .i64 k, .bool true, .int .i64 0, .string ⟨#[]⟩, .slice none 0 0, .slice none 0 0, .int .u64 (w : Nat), .int .i64 (pf : Nat), .int .i64 n] 50) = w6 at *
  have HB18 : Hid (W.heap.size ≤ w4.heap.size) := hid HBe.out.size
  generalize w4.heap.size = B18 at *
  have hb6d : Below W.heap.size W w6.drew := ⟨hbel6.os, hbel6.tape, hbel6.output, hbel6.size, hbel6.block⟩
  have f6d : w6.drew.heap[B18]? = some (.cells #[.int .i64 k, .bool true, .int .i64 0, .string ⟨#[]⟩, .slice none 0 0, .slice none 0 0, .int .u64 (w : Nat), .int .i64 (pf : Nat), .int .i64 n] 50) := f6
  clear hB6 HBe e4 f6 hbel6
  refine wp_region_held_drew (S := fun w' => w'.heap[B18]? = some (.cells #[.int .i64 k, .bool true, .int .i64 0, .string ⟨#[]⟩, .slice none 0 0, .slice none 0 0, .int .u64 (w : Nat), .int .i64 (pf : Nat), .int .i64 n] 50)) (by kernel_rfl) f6d ?_
  intro hS
  (refine wpAnyH_take (i := 0) (v := ?_) rfl (by kernel_rfl) (by kernel_rfl) (by kernel_rfl) (fun _ _ _ h => h) (Or.inl ⟨by rfl, ?_⟩) hS ?_); rotate_left; (focus (intro w' hSw; (have ec := fun j => cell_of_row w' B18 j _ _ _ hSw); go_simp; (try with_reducible rfl))); (try simp only [Act.put, List.getElem_toArray, List.getElem_cons_zero, List.setIfInBounds_toArray, List.set_cons_zero, List.set_cons_succ])
  (refine wpAnyH_take (i := 1) (v := ?_) rfl (by kernel_rfl) (by kernel_rfl) (by kernel_rfl) (fun _ _ _ h => h) (Or.inl ⟨by rfl, ?_⟩) hS ?_); rotate_left; (focus (intro w' hSw; (have ec := fun j => cell_of_row w' B18 j _ _ _ hSw); go_simp; (try with_reducible rfl))); (try simp only [Act.put, List.getElem_toArray, List.getElem_cons_zero, List.getElem_cons_succ, List.setIfInBounds_toArray, List.set_cons_zero, List.set_cons_succ])
  (refine wpAnyH_take (i := 2) (v := ?_) rfl (by kernel_rfl) (by kernel_rfl) (by kernel_rfl) (fun _ _ _ h => h) (Or.inl ⟨by rfl, ?_⟩) hS ?_); rotate_left; (focus (intro w' hSw; (have ec := fun j => cell_of_row w' B18 j _ _ _ hSw); go_simp; (try with_reducible rfl))); (try simp only [Act.put, List.getElem_toArray, List.getElem_cons_zero, List.getElem_cons_succ, List.setIfInBounds_toArray, List.set_cons_zero, List.set_cons_succ])
  (refine wpAnyH_take (i := 3) (v := ?_) rfl (by kernel_rfl) (by kernel_rfl) (by kernel_rfl) (fun _ _ _ h => h) (Or.inl ⟨by rfl, ?_⟩) hS ?_); rotate_left; (focus (intro w' hSw; (have ec := fun j => cell_of_row w' B18 j _ _ _ hSw); go_simp; (try with_reducible rfl))); (try simp only [Act.put, List.getElem_toArray, List.getElem_cons_zero, List.getElem_cons_succ, List.setIfInBounds_toArray, List.set_cons_zero, List.set_cons_succ])
  generalize w6.drew = w7 at *
  have hB8 : Below w7.heap.size w7 (w7.alloc (.cells #[.int .u64 (w : Nat)] 22)) := (Below.refl _ w7).alloc (Nat.le_refl _) _
  have hw8 : WordsAt (w7.alloc (.cells #[.int .u64 (w : Nat)] 22)) (.slice (some ⟨w7.heap.size, 0, none⟩) 1 1) [w] := words_new w7 [w] _ (by intro x hx; rw [List.mem_singleton.1 hx]; exact HW.out) (by simp) rfl 22
  have hS8 : (w7.alloc (.cells #[.int .u64 (w : Nat)] 22)).heap[B18]? = some (.cells #[.int .i64 k, .bool true, .int .i64 0, .string ⟨#[]⟩, .slice none 0 0, .slice none 0 0, .int .u64 (w : Nat), .int .i64 (pf : Nat), .int .i64 n] 50) := (hB8.block B18 (lt_get hS)).trans hS
  refine wpAnyH_ready (rs := [4]) (by kernel_rfl) (by simp) ?_
  refine AllReadyH.cons rfl (fun K hK => ?_) AllReadyH.nil
  go_simp
  refine hK.out _ _ hS8 (fun _ => ?_)
  clear hK K
  (try simp only [Act.put, List.getElem_toArray, List.getElem_cons_zero, List.getElem_cons_succ, List.setIfInBounds_toArray, List.set_cons_zero, List.set_cons_succ])
  have hb8 := hb6d.trans (hB8.mono hb6d.size)
  generalize w7.alloc (.cells #[.int .u64 (w : Nat)] 22) = w8 at *
  have hB9 : Below w8.heap.size w8 (w8.alloc (.cells #[.slice orr rn capr, .slice (some ⟨w7.heap.size, 0, none⟩) 1 1] 27)) := (Below.refl _ w8).alloc (Nat.le_refl _) _
  have e9 := World.cell?_alloc_new w8 #[.slice orr rn capr, .slice (some ⟨w7.heap.size, 0, none⟩) 1 1] 27
  have hS9 : (w8.alloc (.cells #[.slice orr rn capr, .slice (some ⟨w7.heap.size, 0, none⟩) 1 1] 27)).heap[B18]? = some (.cells #[.int .i64 k, .bool true, .int .i64 0, .string ⟨#[]⟩, .slice none 0 0, .slice none 0 0, .int .u64 (w : Nat), .int .i64 (pf : Nat), .int .i64 n] 50) := (hB9.block B18 (lt_get hS8)).trans hS8
  refine wpAnyH_ready (rs := [5]) (by kernel_rfl) (by simp) ?_
  refine AllReadyH.cons rfl (fun K hK => ?_) AllReadyH.nil
  go_simp
  refine hK.out _ _ hS9 (fun _ => ?_)
  clear hK K
  (try simp only [Act.put, List.getElem_toArray, List.getElem_cons_zero, List.getElem_cons_succ, List.setIfInBounds_toArray, List.set_cons_zero, List.set_cons_succ])
  have hb9 := hb8.trans (hB9.mono hb8.size)
  have hw9 := words_below hw8 hB9
  have hr9 := words_below HR.out hb9
  have d0 := e9 0
  have d1 := e9 1
  simp only [List.getElem?_toArray, List.getElem?_cons_succ, List.getElem?_cons_zero] at d0 d1
  have cc := sconcat_c (w8.alloc (.cells #[.slice orr rn capr, .slice (some ⟨w7.heap.size, 0, none⟩) 1 1] 27)) w8.heap.size 2 _ _ rs [w] d0 d1 hr9 hw9 (by show rs.length + 1 ≤ 1000000; have := HLR.out; omega) (by show 0 < 1; omega)
  generalize w8.alloc (.cells #[.slice orr rn capr, .slice (some ⟨w7.heap.size, 0, none⟩) 1 1] 27) = w9 at *
  refine wpAnyH_ready (rs := [6]) (by kernel_rfl) (by simp) ?_
  refine AllReadyH.cons rfl (fun K hK => ?_) AllReadyH.nil
  go_simp
  refine cc.mono ?_
  rintro e w10 ⟨v10, rfl, hB10, hv10⟩
  refine hK.out _ _ ((hB10.block B18 (lt_get hS9)).trans hS9) (fun hS10 => ?_)
  clear hK K cc
  (try simp only [Act.put, List.getElem_toArray, List.getElem_cons_zero, List.getElem_cons_succ, List.setIfInBounds_toArray, List.set_cons_zero, List.set_cons_succ])
  have hb10 := hb9.trans (hB10.mono hb9.size)
  have cp := HP.out w10 v10 hb10 hv10
  obtain ⟨o10, c10, hv, hx10⟩ := id hv10
  subst hv
  clear hv10 hx10
  generalize (rs ++ [w]).length = L10 at *
  refine wpAnyH_ready (rs := [7]) (by kernel_rfl) (by simp) ?_
  refine AllReadyH.cons rfl (fun K hK => ?_) AllReadyH.nil
  go_simp
  refine cp.mono ?_
  rintro e w11 ⟨rfl, hQ⟩
  obtain ⟨hQ1, hk1⟩ := hQ
  refine hK.out _ _ ((hk1 B18 HB18.out (lt_get hS10)).trans hS10) (fun hS11 => ?_)
  clear hK K cp
  (try simp only [Act.put, List.getElem_toArray, List.getElem_cons_zero, List.getElem_cons_succ, List.setIfInBounds_toArray, List.set_cons_zero, List.set_cons_succ])
  have hS := hS11
  (refine wpAnyH_take (i := 8) (v := ?_) rfl (by kernel_rfl) (by kernel_rfl) (by kernel_rfl) (fun _ _ _ h => h) (Or.inl ⟨by rfl, ?_⟩) hS ?_); rotate_left; (focus (intro w' hSw; (have ec := fun j => cell_of_row w' B18 j _ _ _ hSw); go_simp; (try with_reducible rfl))); (try simp only [Act.put, List.getElem_toArray, List.getElem_cons_zero, List.getElem_cons_succ, List.setIfInBounds_toArray, List.set_cons_zero, List.set_cons_succ])
  (refine wpAnyH_take (i := 9) (v := ?_) rfl (by kernel_rfl) (by kernel_rfl) (by kernel_rfl) (fun _ _ _ h => h) (Or.inl ⟨by rfl, ?_⟩) hS ?_); rotate_left; (focus (intro w' hSw; (have ec := fun j => cell_of_row w' B18 j _ _ _ hSw); go_simp; (try with_reducible rfl))); (try simp only [Act.put, List.getElem_toArray, List.getElem_cons_zero, List.getElem_cons_succ, List.setIfInBounds_toArray, List.set_cons_zero, List.set_cons_succ])
  (refine wpAnyH_take (i := 10) (v := ?_) rfl (by kernel_rfl) (by kernel_rfl) (by kernel_rfl) (fun _ _ _ h => h) (Or.inl ⟨by rfl, ?_⟩) hS ?_); rotate_left; (focus (intro w' hSw; (have ec := fun j => cell_of_row w' B18 j _ _ _ hSw); go_simp; (try with_reducible rfl))); (try simp only [Act.put, List.getElem_toArray, List.getElem_cons_zero, List.getElem_cons_succ, List.setIfInBounds_toArray, List.set_cons_zero, List.set_cons_succ])
  (refine wpAnyH_take (i := 11) (v := ?_) rfl (by kernel_rfl) (by kernel_rfl) (by kernel_rfl) (fun _ _ _ h => h) (Or.inl ⟨by rfl, ?_⟩) hS ?_); rotate_left; (focus (intro w' hSw; (have ec := fun j => cell_of_row w' B18 j _ _ _ hSw); go_simp; (try with_reducible rfl))); (try simp only [Act.put, List.getElem_toArray, List.getElem_cons_zero, List.getElem_cons_succ, List.setIfInBounds_toArray, List.set_cons_zero, List.set_cons_succ])
  refine wpAnyH_done (by kernel_rfl) ?_ _
  go_wp2
  go_ret2
  exact ⟨rfl, hQ1⟩
end
end Go.Proofs.YtikgicepdalfpaaGreat.W
/- Package buf: View, of a view. -/
namespace Go.Proofs.YtikgicepdalfpaaGreat.W
open Go.ChangeShapes Go.WideShapes Go.RowKit Go.Shelf
set_option linter.unusedVariables false
section
variable {W0 W W1 W' : World} {hb : Nat} {H : List (Option Hc)} {u : Nat} {K : Nat → Prop}
set_option maxRecDepth 100000 in
set_option maxHeartbeats 4000000 in
theorem view_true (q : Hf W0 W hb H u K) (w : Nat) (hw64 : w < 18446744073709551616) (kd : Int) (h9 : ¬ kd = 9) (bl wl ba p : Nat) (ln : Int) (xs : List Value) (hget : Calls Tryz.prog 44 #[.pointer (some ⟨hb, 0, none⟩), .int .u64 w] W (ThP W kd true bl wl ba p ln xs)) (k : Int) (f n : Nat)
    (hfits : ∀ ob ow bc wc W, Calls Tryz.prog 56 #[.agg #[.int .i64 kd, .bool true, .int .i64 0, .string ⟨#[]⟩, .slice ob bl bc, .slice ow wl wc, .int .u64 ba, .int .i64 p, .int .i64 ln], .int .i64 k, .int .i64 f, .int .i64 n] W fun e w' => e = .returned (.int .i64 0) ∧ Below W.heap.size W w')
    (pf : Nat) (hpf : p + f = pf) (hp8 : pf ≤ 8388608) (hn8 : n ≤ 8388608) (Q : World → Prop) (word : Nat) (orr : Option Addr) (capr : Nat) (rs : List Nat) (hr : WordsAt W (.slice orr rs.length capr) rs) (hrl : rs.length ≤ 900000)
    (hput : ∀ w9 v, Below W.heap.size W w9 → WordsAt w9 v (rs ++ [w]) → Calls Tryz.prog 15 #[.pointer (some ⟨hb, 0, none⟩), .agg #[.int .i64 k, .bool true, .int .i64 0, .string ⟨#[]⟩, .slice none 0 0, .slice none 0 0, .int .u64 (ba : Nat), .int .i64 (pf : Nat), .int .i64 n], v] w9 fun e w' => e = .returned (.tuple #[.int .u64 (word : Nat), .int .i64 0]) ∧ Q w' ∧ ∀ b, W.heap.size ≤ b → b < w9.heap.size → w'.heap[b]? = w9.heap[b]?) :
    Calls Tryz.prog 29 #[.pointer (some ⟨hb, 0, none⟩), .int .u64 w, .int .i64 k, .int .i64 f, .int .i64 n, .slice orr rs.length capr] W fun e w' => e = .returned (.tuple #[.int .u64 (word : Nat), .int .i64 0]) ∧ Q w' := by
  have hfw : IntKind.i64.wrap (f : Int) = f := by rw [IntKind.wrap_i64]; omega
  have hnw : IntKind.i64.wrap (n : Int) = n := by rw [IntKind.wrap_i64]; omega
  have hpw : IntKind.i64.wrap ((p : Int) + (f : Int)) = (pf : Nat) := by rw [IntKind.wrap_i64]; omega
  have hpw' : wrap64 ((p : Int) + (f : Int)) = (pf : Nat) := by unfold wrap64; omega
  have HP := hid hput
  have HR := hid hr
  have HF := hid hfits
  have HLR := hid hrl
  have HW := hid hw64
  clear q hput hr hfits hp8 hn8 hpf hrl hw64
  generalize hrn : rs.length = rn at *
  go_enter Tryz.func29, Tryz.ntmps29
  go_upto_region 2 with (go_at_call 44; (with_reducible refine hget.mono ?_); rintro e w2 ⟨ob, bc, ow, wc, rfl, hB2, ho⟩; clear hget ho)
  have hf1 := HF.out ob ow bc wc
  have hB3 : Below w2.heap.size w2 (w2.alloc (.cells #[.int .i64 kd, .bool true, .int .i64 0, .string ⟨#[]⟩, .slice ob bl bc, .slice ow wl wc, .int .u64 ba, .int .i64 p, .int .i64 ln] 50)) := (Below.refl _ w2).alloc (Nat.le_refl _) _
  have f3 := World.alloc_heap_new w2 (.cells #[.int .i64 kd, .bool true, .int .i64 0, .string ⟨#[]⟩, .slice ob bl bc, .slice ow wl wc, .int .u64 ba, .int .i64 p, .int .i64 ln] 50)
  have e3 := World.cell?_alloc_new w2 #[.int .i64 kd, .bool true, .int .i64 0, .string ⟨#[]⟩, .slice ob bl bc, .slice ow wl wc, .int .u64 ba, .int .i64 p, .int .i64 ln] 50
  have hbel := hB2.trans (hB3.mono hB2.size)
  have hz2 := hB2.size
  generalize w2.alloc (.cells #[.int .i64 kd, .bool true, .int .i64 0, .string ⟨#[]⟩, .slice ob bl bc, .slice ow wl wc, .int .u64 ba, .int .i64 p, .int .i64 ln] 50) = w3 at *
  generalize w2.heap.size = B14 at *
  have kp : Hid (∀ w4, Below w3.heap.size w3 w4 → (∀ j, w4.cell? ⟨B14, j, none⟩ = #[.int .i64 kd, .bool true, .int .i64 0, .string ⟨#[]⟩, .slice ob bl bc, .slice ow wl wc, .int .u64 ba, .int .i64 p, .int .i64 ln][j]?) ∧ Below W.heap.size W w4) := by
    show ∀ w4, _
    intro w4 hB4
    exact ⟨fun j => (World.cell?_of_block (hB4.block B14 (lt_get f3))).trans (e3 j), hbel.trans (hB4.mono hbel.size)⟩
  have hf3 := hf1 w3
  clear hB2 hB3 hbel f3 hf1 hz2
  go_upto_region 13 with (go_at_call 56; (with_reducible refine hf3.mono ?_); rintro e w4 ⟨rfl, hB4⟩; clear hf3; (obtain ⟨e4, hbel4⟩ := kp.out w4 hB4); (have HBe := hid hbel4); clear hbel4 hB4 kp e3)
  have hB6 : Below w4.heap.size w4 (w4.alloc (.cells #[.int .i64 k, .bool true, .int .i64 0, .string ⟨#[]⟩, .slice none 0 0, .slice none 0 0, .int .u64 (ba : Nat), .int .i64 (pf : Nat), .int .i64 n] 50)) := (Below.refl _ w4).alloc (Nat.le_refl _) _
  have f6 := World.alloc_heap_new w4 (.cells #[.int .i64 k, .bool true, .int .i64 0, .string ⟨#[]⟩, .slice none 0 0, .slice none 0 0, .int .u64 (ba : Nat), .int .i64 (pf : Nat), .int .i64 n] 50)
  have hbel6 := HBe.out.trans (hB6.mono HBe.out.size)
  generalize w4.alloc (.cells #[.int .i64 k, .bool true, .int .i64 0, .string ⟨#[]⟩, .slice none 0 0, .slice none 0 0, .int .u64 (ba : Nat), .int .i64 (pf : Nat), .int .i64 n] 50) = w6 at *
  have HB18 : Hid (W.heap.size ≤ w4.heap.size) := hid HBe.out.size
  generalize w4.heap.size = B18 at *
  have hb6d : Below W.heap.size W w6.drew := ⟨hbel6.os, hbel6.tape, hbel6.output, hbel6.size, hbel6.block⟩
  have f6d : w6.drew.heap[B18]? = some (.cells #[.int .i64 k, .bool true, .int .i64 0, .string ⟨#[]⟩, .slice none 0 0, .slice none 0 0, .int .u64 (ba : Nat), .int .i64 (pf : Nat), .int .i64 n] 50) := f6
  clear hB6 HBe e4 f6 hbel6
  refine wp_region_held_drew (S := fun w' => w'.heap[B18]? = some (.cells #[.int .i64 k, .bool true, .int .i64 0, .string ⟨#[]⟩, .slice none 0 0, .slice none 0 0, .int .u64 (ba : Nat), .int .i64 (pf : Nat), .int .i64 n] 50)) (by kernel_rfl) f6d ?_
  intro hS
  (refine wpAnyH_take (i := 0) (v := ?_) rfl (by kernel_rfl) (by kernel_rfl) (by kernel_rfl) (fun _ _ _ h => h) (Or.inl ⟨by rfl, ?_⟩) hS ?_); rotate_left; (focus (intro w' hSw; (have ec := fun j => cell_of_row w' B18 j _ _ _ hSw); go_simp; (try with_reducible rfl))); (try simp only [Act.put, List.getElem_toArray, List.getElem_cons_zero, List.setIfInBounds_toArray, List.set_cons_zero, List.set_cons_succ])
  (refine wpAnyH_take (i := 1) (v := ?_) rfl (by kernel_rfl) (by kernel_rfl) (by kernel_rfl) (fun _ _ _ h => h) (Or.inl ⟨by rfl, ?_⟩) hS ?_); rotate_left; (focus (intro w' hSw; (have ec := fun j => cell_of_row w' B18 j _ _ _ hSw); go_simp; (try with_reducible rfl))); (try simp only [Act.put, List.getElem_toArray, List.getElem_cons_zero, List.getElem_cons_succ, List.setIfInBounds_toArray, List.set_cons_zero, List.set_cons_succ])
  (refine wpAnyH_take (i := 2) (v := ?_) rfl (by kernel_rfl) (by kernel_rfl) (by kernel_rfl) (fun _ _ _ h => h) (Or.inl ⟨by rfl, ?_⟩) hS ?_); rotate_left; (focus (intro w' hSw; (have ec := fun j => cell_of_row w' B18 j _ _ _ hSw); go_simp; (try with_reducible rfl))); (try simp only [Act.put, List.getElem_toArray, List.getElem_cons_zero, List.getElem_cons_succ, List.setIfInBounds_toArray, List.set_cons_zero, List.set_cons_succ])
  (refine wpAnyH_take (i := 3) (v := ?_) rfl (by kernel_rfl) (by kernel_rfl) (by kernel_rfl) (fun _ _ _ h => h) (Or.inl ⟨by rfl, ?_⟩) hS ?_); rotate_left; (focus (intro w' hSw; (have ec := fun j => cell_of_row w' B18 j _ _ _ hSw); go_simp; (try with_reducible rfl))); (try simp only [Act.put, List.getElem_toArray, List.getElem_cons_zero, List.getElem_cons_succ, List.setIfInBounds_toArray, List.set_cons_zero, List.set_cons_succ])
  generalize w6.drew = w7 at *
  have hB8 : Below w7.heap.size w7 (w7.alloc (.cells #[.int .u64 (w : Nat)] 22)) := (Below.refl _ w7).alloc (Nat.le_refl _) _
  have hw8 : WordsAt (w7.alloc (.cells #[.int .u64 (w : Nat)] 22)) (.slice (some ⟨w7.heap.size, 0, none⟩) 1 1) [w] := words_new w7 [w] _ (by intro x hx; rw [List.mem_singleton.1 hx]; exact HW.out) (by simp) rfl 22
  have hS8 : (w7.alloc (.cells #[.int .u64 (w : Nat)] 22)).heap[B18]? = some (.cells #[.int .i64 k, .bool true, .int .i64 0, .string ⟨#[]⟩, .slice none 0 0, .slice none 0 0, .int .u64 (ba : Nat), .int .i64 (pf : Nat), .int .i64 n] 50) := (hB8.block B18 (lt_get hS)).trans hS
  refine wpAnyH_ready (rs := [4]) (by kernel_rfl) (by simp) ?_
  refine AllReadyH.cons rfl (fun K hK => ?_) AllReadyH.nil
  go_simp
  refine hK.out _ _ hS8 (fun _ => ?_)
  clear hK K
  (try simp only [Act.put, List.getElem_toArray, List.getElem_cons_zero, List.getElem_cons_succ, List.setIfInBounds_toArray, List.set_cons_zero, List.set_cons_succ])
  have hb8 := hb6d.trans (hB8.mono hb6d.size)
  generalize w7.alloc (.cells #[.int .u64 (w : Nat)] 22) = w8 at *
  have hB9 : Below w8.heap.size w8 (w8.alloc (.cells #[.slice orr rn capr, .slice (some ⟨w7.heap.size, 0, none⟩) 1 1] 27)) := (Below.refl _ w8).alloc (Nat.le_refl _) _
  have e9 := World.cell?_alloc_new w8 #[.slice orr rn capr, .slice (some ⟨w7.heap.size, 0, none⟩) 1 1] 27
  have hS9 : (w8.alloc (.cells #[.slice orr rn capr, .slice (some ⟨w7.heap.size, 0, none⟩) 1 1] 27)).heap[B18]? = some (.cells #[.int .i64 k, .bool true, .int .i64 0, .string ⟨#[]⟩, .slice none 0 0, .slice none 0 0, .int .u64 (ba : Nat), .int .i64 (pf : Nat), .int .i64 n] 50) := (hB9.block B18 (lt_get hS8)).trans hS8
  refine wpAnyH_ready (rs := [5]) (by kernel_rfl) (by simp) ?_
  refine AllReadyH.cons rfl (fun K hK => ?_) AllReadyH.nil
  go_simp
  refine hK.out _ _ hS9 (fun _ => ?_)
  clear hK K
  (try simp only [Act.put, List.getElem_toArray, List.getElem_cons_zero, List.getElem_cons_succ, List.setIfInBounds_toArray, List.set_cons_zero, List.set_cons_succ])
  have hb9 := hb8.trans (hB9.mono hb8.size)
  have hw9 := words_below hw8 hB9
  have hr9 := words_below HR.out hb9
  have d0 := e9 0
  have d1 := e9 1
  simp only [List.getElem?_toArray, List.getElem?_cons_succ, List.getElem?_cons_zero] at d0 d1
  have cc := sconcat_c (w8.alloc (.cells #[.slice orr rn capr, .slice (some ⟨w7.heap.size, 0, none⟩) 1 1] 27)) w8.heap.size 2 _ _ rs [w] d0 d1 hr9 hw9 (by show rs.length + 1 ≤ 1000000; have := HLR.out; omega) (by show 0 < 1; omega)
  generalize w8.alloc (.cells #[.slice orr rn capr, .slice (some ⟨w7.heap.size, 0, none⟩) 1 1] 27) = w9 at *
  refine wpAnyH_ready (rs := [6]) (by kernel_rfl) (by simp) ?_
  refine AllReadyH.cons rfl (fun K hK => ?_) AllReadyH.nil
  go_simp
  refine cc.mono ?_
  rintro e w10 ⟨v10, rfl, hB10, hv10⟩
  refine hK.out _ _ ((hB10.block B18 (lt_get hS9)).trans hS9) (fun hS10 => ?_)
  clear hK K cc
  (try simp only [Act.put, List.getElem_toArray, List.getElem_cons_zero, List.getElem_cons_succ, List.setIfInBounds_toArray, List.set_cons_zero, List.set_cons_succ])
  have hb10 := hb9.trans (hB10.mono hb9.size)
  have cp := HP.out w10 v10 hb10 hv10
  obtain ⟨o10, c10, hv, hx10⟩ := id hv10
  subst hv
  clear hv10 hx10
  generalize (rs ++ [w]).length = L10 at *
  refine wpAnyH_ready (rs := [7]) (by kernel_rfl) (by simp) ?_
  refine AllReadyH.cons rfl (fun K hK => ?_) AllReadyH.nil
  go_simp
  refine cp.mono ?_
  rintro e w11 ⟨rfl, hQ⟩
  obtain ⟨hQ1, hk1⟩ := hQ
  refine hK.out _ _ ((hk1 B18 HB18.out (lt_get hS10)).trans hS10) (fun hS11 => ?_)
  clear hK K cp
  (try simp only [Act.put, List.getElem_toArray, List.getElem_cons_zero, List.getElem_cons_succ, List.setIfInBounds_toArray, List.set_cons_zero, List.set_cons_succ])
  have hS := hS11
  (refine wpAnyH_take (i := 8) (v := ?_) rfl (by kernel_rfl) (by kernel_rfl) (by kernel_rfl) (fun _ _ _ h => h) (Or.inl ⟨by rfl, ?_⟩) hS ?_); rotate_left; (focus (intro w' hSw; (have ec := fun j => cell_of_row w' B18 j _ _ _ hSw); go_simp; (try with_reducible rfl))); (try simp only [Act.put, List.getElem_toArray, List.getElem_cons_zero, List.getElem_cons_succ, List.setIfInBounds_toArray, List.set_cons_zero, List.set_cons_succ])
  (refine wpAnyH_take (i := 9) (v := ?_) rfl (by kernel_rfl) (by kernel_rfl) (by kernel_rfl) (fun _ _ _ h => h) (Or.inl ⟨by rfl, ?_⟩) hS ?_); rotate_left; (focus (intro w' hSw; (have ec := fun j => cell_of_row w' B18 j _ _ _ hSw); go_simp; (try with_reducible rfl))); (try simp only [Act.put, List.getElem_toArray, List.getElem_cons_zero, List.getElem_cons_succ, List.setIfInBounds_toArray, List.set_cons_zero, List.set_cons_succ])
  (refine wpAnyH_take (i := 10) (v := ?_) rfl (by kernel_rfl) (by kernel_rfl) (by kernel_rfl) (fun _ _ _ h => h) (Or.inl ⟨by rfl, ?_⟩) hS ?_); rotate_left; (focus (intro w' hSw; (have ec := fun j => cell_of_row w' B18 j _ _ _ hSw); go_simp; (try with_reducible rfl))); (try simp only [Act.put, List.getElem_toArray, List.getElem_cons_zero, List.getElem_cons_succ, List.setIfInBounds_toArray, List.set_cons_zero, List.set_cons_succ])
  (refine wpAnyH_take (i := 11) (v := ?_) rfl (by kernel_rfl) (by kernel_rfl) (by kernel_rfl) (fun _ _ _ h => h) (Or.inl ⟨by rfl, ?_⟩) hS ?_); rotate_left; (focus (intro w' hSw; (have ec := fun j => cell_of_row w' B18 j _ _ _ hSw); go_simp; (try with_reducible rfl))); (try simp only [Act.put, List.getElem_toArray, List.getElem_cons_zero, List.getElem_cons_succ, List.setIfInBounds_toArray, List.set_cons_zero, List.set_cons_succ])
  refine wpAnyH_done (by kernel_rfl) ?_ _
  go_wp2
  go_ret2
  exact ⟨rfl, hQ1⟩
end
end Go.Proofs.YtikgicepdalfpaaGreat.W
/- View and Store over a heap that a statement made; casketlaw9's awake. -/
namespace Go.Proofs.YtikgicepdalfpaaGreat.W
open Go.ChangeShapes Go.WideShapes Go.RowKit Go.Shelf
set_option linter.unusedVariables false
section
variable {W0 W W1 W' : World} {hb : Nat} {H : List (Option Hc)} {u : Nat} {K : Nat → Prop}
theorem hf_viewq (q : Hf W0 W hb H u K) (k : Int) (hk : elB k > 0) (ba p n : Nat) (hba : ba < 18446744073709551616) (id : Nat) (hi : hit H ba = some id) (k2 : Int) (bs : List Nat) (hc : H[id]? = some (some (.buf k2 bs))) (hp : p ≤ bs.length) (hpm : p % elB k = 0) (hn : n ≤ (bs.length - p) / elB k) (hf : sumH H + 1 ≤ u) (rs : List Nat) (w9 : World) (v : Value) (hB : Below W.heap.size W w9) (hr : WordsAt w9 v rs) :
    Calls Tryz.prog 15 #[.pointer (some ⟨hb, 0, none⟩), .agg #[.int .i64 k, .bool true, .int .i64 0, .string ⟨#[]⟩, .slice none 0 0, .slice none 0 0, .int .u64 ba, .int .i64 p, .int .i64 n], v] w9 fun e w' => e = .returned (.tuple #[.int .u64 (hw (lid H) : Nat), .int .i64 0]) ∧ (Hf W0 w' hb (putH H (lid H) (some (.view k ba p n))) u K ∧ Upd (Ch W0 K) W w') ∧ ∀ b, W.heap.size ≤ b → b < w9.heap.size → w'.heap[b]? = w9.heap[b]? := by
  refine (hf_view (q.below hB) k hk ba p n hba id hi k2 bs hc hp hpm hn hf v rs hr).mono ?_
  rintro e w' ⟨rfl, h1, h2⟩
  refine ⟨rfl, ⟨h1.sub (fun k e => .inl e), (Upd.of_below hB).trans' (h2.mono ?_)⟩, fun b b1 b2 => h2.block b b2 (fun e => e.1 (.inr ⟨b1, b2⟩))⟩
  rintro x ⟨e1, e2⟩
  exact ⟨fun e => e1 (.inl e), e2⟩
theorem bview_buf (q : Hf W0 W hb H u K) (w : Nat) (hw64 : w < 18446744073709551616) (id : Nat) (hi : hit H w = some id) (kd : Int) (bs : List Nat) (hc : H[id]? = some (some (.buf kd bs))) (m : Nat) (hm : bs.length = m * elB kd) (k : Int) (hk : elB k > 0) (f n : Nat) (ha : f % elB k = 0) (hf : f ≤ bs.length) (hn : n ≤ (bs.length - f) / elB k) (hfit : sumH H + 1 ≤ u) (orr : Option Addr) (capr : Nat) (rs : List Nat) (hr : WordsAt W (.slice orr rs.length capr) rs) (hrl : rs.length ≤ 900000) :
    Calls Tryz.prog 29 #[.pointer (some ⟨hb, 0, none⟩), .int .u64 w, .int .i64 k, .int .i64 f, .int .i64 n, .slice orr rs.length capr] W fun e w' => e = .returned (.tuple #[.int .u64 (hw (lid H) : Nat), .int .i64 0]) ∧ Hf W0 w' hb (putH H (lid H) (some (.view k w f n))) u K ∧ Upd (Ch W0 K) W w' := by
  obtain ⟨sb, vc, T, l⟩ := q.lay
  have hok := l.ok id _ hc
  have hkd : elB kd > 0 := hok.1
  have hl8 : bs.length ≤ 8388608 := hok.2.2
  have h9 : ¬ kd = 9 := by rintro rfl; simp [elB] at hkd
  have hcnt : (Hc.buf kd bs).cnt = m := by show bs.length / elB kd = m; rw [hm, Nat.mul_div_cancel _ hkd]
  have hn8 : n ≤ 8388608 := by have := Nat.div_le_self (bs.length - f) (elB k); omega
  refine view_false q w hw64 kd h9 bs.length 0 0 0 0 (wds []) (thing_c l w hw64 id hi _ hc trivial) k f n ?_ f (Nat.zero_add f) (by omega) hn8 (fun w' => Hf W0 w' hb (putH H (lid H) (some (.view k w f n))) u K ∧ Upd (Ch W0 K) W w') (hw (lid H)) orr capr rs hr hrl ?_
  · intro ob ow bc wc W
    refine fits_c kd hkd false ob ow bs.length bc 0 wc 0 0 0 m (fun W => ?_) k hk f n (by rw [Nat.zero_add]; exact ha) (by rw [← hm]; exact hf) (by rw [← hm]; exact hn) (by rw [← hm]; exact hl8) (by omega) W
    have := count_c (Hc.buf kd bs) trivial hok ob ow bc wc W
    rw [hcnt] at this
    exact this
  · intro w9 v hB hv
    exact hf_viewq q k hk w f n hw64 id hi kd bs hc hf ha hn hfit (rs ++ [w]) w9 v hB hv
theorem bview_view (q : Hf W0 W hb H u K) (w : Nat) (hw64 : w < 18446744073709551616) (id : Nat) (hi : hit H w = some id) (kd : Int) (ba p m : Nat) (hc : H[id]? = some (some (.view kd ba p m))) (t : Nat) (ht : hit H ba = some t) (k2 : Int) (bs : List Nat) (hct : H[t]? = some (some (.buf k2 bs))) (hin : p + m * elB kd ≤ bs.length) (k : Int) (hk : elB k > 0) (f n : Nat) (ha : (p + f) % elB k = 0) (hf : f ≤ m * elB kd) (hn : n ≤ (m * elB kd - f) / elB k) (hfit : sumH H + 1 ≤ u) (orr : Option Addr) (capr : Nat) (rs : List Nat) (hr : WordsAt W (.slice orr rs.length capr) rs) (hrl : rs.length ≤ 900000) :
    Calls Tryz.prog 29 #[.pointer (some ⟨hb, 0, none⟩), .int .u64 w, .int .i64 k, .int .i64 f, .int .i64 n, .slice orr rs.length capr] W fun e w' => e = .returned (.tuple #[.int .u64 (hw (lid H) : Nat), .int .i64 0]) ∧ Hf W0 w' hb (putH H (lid H) (some (.view k ba (p + f) n))) u K ∧ Upd (Ch W0 K) W w' := by
  obtain ⟨sb, vc, T, l⟩ := q.lay
  have hok := l.ok id _ hc
  have hkd : elB kd > 0 := hok.1
  have hok2 := l.ok t _ hct
  have hl8 : bs.length ≤ 8388608 := hok2.2.2
  have h9 : ¬ kd = 9 := by rintro rfl; simp [elB] at hkd
  have hn8 : n ≤ 8388608 := by have := Nat.div_le_self (m * elB kd - f) (elB k); omega
  have hmn : (m * elB kd - f) / elB k ≤ (bs.length - (p + f)) / elB k := Nat.div_le_div_right (by omega)
  refine view_true q w hw64 kd h9 0 0 ba p m (wds []) (thing_c l w hw64 id hi _ hc trivial) k f n ?_ (p + f) rfl (by omega) hn8 (fun w' => Hf W0 w' hb (putH H (lid H) (some (.view k ba (p + f) n))) u K ∧ Upd (Ch W0 K) W w') (hw (lid H)) orr capr rs hr hrl ?_
  · intro ob ow bc wc W
    refine fits_c kd hkd true ob ow 0 bc 0 wc ba p m m (fun W => ?_) k hk f n ha hf hn (by omega) (by omega) W
    exact count_c (Hc.view kd ba p m) trivial hok ob ow bc wc W
  · intro w9 v hB hv
    exact hf_viewq q k hk ba (p + f) n hok.2.1 t ht k2 bs hct (by omega) ha (Nat.le_trans hn hmn) hfit (rs ++ [w]) w9 v hB hv
theorem hf_oct {w : Nat} {k2 : Int} {t p n : Nat} {bs : List Nat} (q : Hf W0 W1 hb H u K) (s : Spot H w 8 t p n k2 bs) (i : Nat) (hi : i * 1 + 1 ≤ n) (j : Nat) (hj : j ≤ 255) :
    Calls Tryz.prog 7 #[.pointer (some ⟨hb, 0, none⟩), .int .u64 w, .int .i64 i, .int .u64 (intW j)] W1 fun e w' => e = .returned (.int .i64 0) ∧ Hf W0 w' hb (H.set t (some (.buf k2 (saved bs (p + i * 1) j 1)))) u K ∧ Upd (Ch W0 K) W1 w' :=
  hf_calls q (sumH_same s.cell (buf_need _ _ _ _ (saved_len _ _ _ _))) (fun sb vc T l => store_oct l s i hi j hj)
end
/-- a heap of a buffer of octets and a view of shorts -/
def a9H (bs : List Nat) : List (Option Hc) := [some (.buf 8 bs), some (.view 7 (hw 0) 2 3)]
theorem a9_spot0 (bs : List Nat) : Spot (a9H bs) (hw 0) 8 0 0 bs.length 8 bs := ⟨hw_lt 0 (by decide), rfl, by omega, 0, hit_hw (by decide) (show (a9H bs)[0]? = some (some (.buf 8 bs)) from rfl), .inl ⟨rfl, rfl, rfl, rfl, rfl⟩⟩
theorem a9_spot1 (bs : List Nat) (h : bs.length = 8) : Spot (a9H bs) (hw 1) 7 0 2 6 8 bs := ⟨hw_lt 1 (by decide), rfl, by omega, 1, hit_hw (by decide) (show (a9H bs)[1]? = some (some (.view 7 (hw 0) 2 3)) from rfl), .inr ⟨hw 0, 3, rfl, hit_hw (by decide) (show (a9H bs)[0]? = some (some (.buf 8 bs)) from rfl), rfl⟩⟩
theorem a9_set (bs bs' : List Nat) : (a9H bs).set 0 (some (.buf 8 bs')) = a9H bs' := rfl
theorem a9_end : elI 7 (leN (seg (saved (saved (List.replicate (8 * elB 8) 0) (0 + 2 * 1) 255 1) (0 + 3 * 1) 255 1) (2 + 0 * 2) 2)) = 18445055223849287679 := by decide
theorem a9_255 : intW ((255 : Nat) : Int) = 18444773748872577279 := by decide
set_option maxRecDepth 100000 in
theorem awake9_c (W : World) : Calls Tryz.prog 11 #[] W fun e w' => e = .returned (.bool true) ∧ Below W.heap.size W w' := by
  have cn := hf_new (Below.refl W.heap.size W) 9 (by decide)
  rw [show ((9 : Nat) : Int) = 9 from rfl] at cn
  go_enter Tryz.func11, Tryz.ntmps11
  go_upto_region 4 with (go_at_call 4; (with_reducible refine cn.mono ?_); rintro e W1 ⟨hb, rfl, q1, hB1⟩; clear cn)
  have c1 := bnew_buf q1 8 (by decide) 8 (by decide) (.slice none 0 0) [] (words_nil W1 _ _)
  rw [show ((8 : Nat) : Int) = 8 from rfl, show ((hw (lid []) : Nat) : Int) = 18445336698825998336 from rfl, show putH [] (lid []) (some (Hc.buf 8 (List.replicate (8 * elB 8) 0))) = [some (Hc.buf 8 (List.replicate (8 * elB 8) 0))] from rfl] at c1
  go_upto_region 5 with (go_at_call 5; (with_reducible refine c1.mono ?_); rintro e W2 ⟨rfl, q2, u2⟩; clear c1)
  have c2 := bview_buf q2 (hw 0) (hw_lt 0 (by decide)) 0 (hit_hw (by decide) rfl) 8 (List.replicate (8 * elB 8) 0) rfl 8 (by decide) 7 (by decide) 2 3 (by decide) (by decide) (by decide) (by decide) none 0 [] (words_nil W2 _ _) (by decide)
  rw [show ((hw 0 : Nat) : Int) = 18445336698825998336 from rfl, show ((2 : Nat) : Int) = 2 from rfl, show ((3 : Nat) : Int) = 3 from rfl, show ([] : List Nat).length = 0 from rfl, show ((hw (lid [some (Hc.buf 8 (List.replicate (8 * elB 8) 0))]) : Nat) : Int) = 18445336698825998337 from rfl, show putH [some (Hc.buf 8 (List.replicate (8 * elB 8) 0))] (lid [some (Hc.buf 8 (List.replicate (8 * elB 8) 0))]) (some (Hc.view 7 (hw 0) 2 3)) = a9H (List.replicate (8 * elB 8) 0) from rfl] at c2
  go_upto_region 6 with (go_at_call 29; (with_reducible refine c2.mono ?_); rintro e W3 ⟨rfl, q3, u3⟩; clear c2)
  have c3 := hf_oct q3 (a9_spot0 _) 2 (by decide) 255 (by decide)
  rw [a9_set, a9_255, show ((hw 0 : Nat) : Int) = 18445336698825998336 from rfl, show ((2 : Nat) : Int) = 2 from rfl] at c3
  go_upto_region 7 with (go_at_call 7; (with_reducible refine c3.mono ?_); rintro e W4 ⟨rfl, q4, u4⟩; clear c3)
  have c4 := hf_oct q4 (a9_spot0 _) 3 (by decide) 255 (by decide)
  rw [a9_set, a9_255, show ((hw 0 : Nat) : Int) = 18445336698825998336 from rfl, show ((3 : Nat) : Int) = 3 from rfl] at c4
  go_upto_region 8 with (go_at_call 7; (with_reducible refine c4.mono ?_); rintro e W5 ⟨rfl, q5, u5⟩; clear c4)
  obtain ⟨sb, vc, T, l⟩ := q5.lay
  have c5 := load_shorts l (a9_spot1 _ (by decide)) 0 (by decide) (by decide)
  rw [a9_end, show ((hw 1 : Nat) : Int) = 18445336698825998337 from rfl, show ((0 : Nat) : Int) = 0 from rfl] at c5
  have hf := hid q5.bel
  clear q1 q2 q3 q4 q5 u2 u3 u4 u5 l hB1
  go_wp2_with (go_at_call 8; (with_reducible refine c5.mono ?_); rintro e W6 ⟨rfl, hB6⟩; clear c5)
  go_ret
  exact ⟨rfl, hf.out.trans (hB6.mono hf.out.size)⟩
end Go.Proofs.YtikgicepdalfpaaGreat.W
/- Package buf: the pair of a row. -/
namespace Go.Proofs.YtikgicepdalfpaaGreat.W
open Go.ChangeShapes Go.WideShapes Go.RowKit Go.Shelf
set_option linter.unusedVariables false
/-- the boxes of a row's pair -/
structure WordAt (W : World) (Bh Bx Bc hb w : Nat) (row : Array Value) : Prop where
  h : Boxed W Bh 23 (.pointer (some ⟨hb, 0, none⟩))
  x : Boxed W Bx 22 (.int .u64 (w : Nat))
  c : W.heap[Bc]? = some (.cells row 50)
theorem WordAt.below {W W' : World} {Bh Bx Bc hb w : Nat} {row : Array Value} (r : WordAt W Bh Bx Bc hb w row) (hB : Below W.heap.size W W') : WordAt W' Bh Bx Bc hb w row :=
  ⟨box_of (hB.block _ r.h.lt) r.h, box_of (hB.block _ r.x.lt) r.x, (hB.block _ (lt_get r.c)).trans r.c⟩
set_option maxRecDepth 100000 in
theorem words_pair (W : World) (hb w : Nat) (vw : Bool) (ob ow : Option Addr) (bl bc wl wc : Nat) (ba fr ln : Int) : Calls Tryz.prog 55 #[.pointer (some ⟨hb, 0, none⟩), .int .u64 (w : Nat), .agg #[.int .i64 9, .bool vw, .int .i64 0, .string ⟨#[]⟩, .slice ob bl bc, .slice ow wl wc, .int .u64 ba, .int .i64 fr, .int .i64 ln]] W fun e w' => ∃ Bh Bx Bc, e = .returned (.agg #[(.func (.func 97) #[] #[.pointer (some ⟨Bc, 0, none⟩)]), (.func (.func 98) #[] #[.pointer (some ⟨Bh, 0, none⟩), .pointer (some ⟨Bx, 0, none⟩)])]) ∧ Below W.heap.size W w' ∧ WordAt w' Bh Bx Bc hb w #[.int .i64 9, .bool vw, .int .i64 0, .string ⟨#[]⟩, .slice ob bl bc, .slice ow wl wc, .int .u64 ba, .int .i64 fr, .int .i64 ln] := by
  have b1 : Below W.heap.size W (W.alloc (.cells #[.pointer (some ⟨hb, 0, none⟩)] 23)) := (Below.refl _ W).alloc (Nat.le_refl _) _
  have s1 : (W.alloc (.cells #[.pointer (some ⟨hb, 0, none⟩)] 23)).heap.size = W.heap.size + 1 := World.size_alloc ..
  have x1 := Boxed.new W 23 (.pointer (some ⟨hb, 0, none⟩))
  generalize hW1 : W.alloc (.cells #[.pointer (some ⟨hb, 0, none⟩)] 23) = W1 at *
  have b2 : Below W1.heap.size W1 (W1.alloc (.cells #[.int .u64 (w : Nat)] 22)) := (Below.refl _ W1).alloc (Nat.le_refl _) _
  have s2 : (W1.alloc (.cells #[.int .u64 (w : Nat)] 22)).heap.size = W1.heap.size + 1 := World.size_alloc ..
  have x2 := Boxed.new W1 22 (.int .u64 (w : Nat))
  generalize hW2 : W1.alloc (.cells #[.int .u64 (w : Nat)] 22) = W2 at *
  have b3 : Below W2.heap.size W2 (W2.alloc (.cells #[.int .i64 9, .bool vw, .int .i64 0, .string ⟨#[]⟩, .slice ob bl bc, .slice ow wl wc, .int .u64 ba, .int .i64 fr, .int .i64 ln] 50)) := (Below.refl _ W2).alloc (Nat.le_refl _) _
  have s3 : (W2.alloc (.cells #[.int .i64 9, .bool vw, .int .i64 0, .string ⟨#[]⟩, .slice ob bl bc, .slice ow wl wc, .int .u64 ba, .int .i64 fr, .int .i64 ln] 50)).heap.size = W2.heap.size + 1 := World.size_alloc ..
  have x3 := World.alloc_heap_new W2 (.cells #[.int .i64 9, .bool vw, .int .i64 0, .string ⟨#[]⟩, .slice ob bl bc, .slice ow wl wc, .int .u64 ba, .int .i64 fr, .int .i64 ln] 50)
  generalize hW3 : W2.alloc (.cells #[.int .i64 9, .bool vw, .int .i64 0, .string ⟨#[]⟩, .slice ob bl bc, .slice ow wl wc, .int .u64 ba, .int .i64 fr, .int .i64 ln] 50) = W3 at *
  have b4 : Below W3.heap.size W3 (W3.alloc (.cells #[.nilFunc, .nilFunc] 65)) := (Below.refl _ W3).alloc (Nat.le_refl _) _
  have f4 := World.alloc_heap_new W3 (.cells #[.nilFunc, .nilFunc] 65)
  generalize hW4 : W3.alloc (.cells #[.nilFunc, .nilFunc] 65) = W4 at *
  have eR := fun j => cell_of_row W4 W3.heap.size j _ _ _ f4
  have zR : ∀ j, W4.frozen? ⟨W3.heap.size, j, none⟩ = false := fun j => by simp [World.frozen?, f4]
  have at4 : Hid (WordAt W4 W.heap.size W1.heap.size W2.heap.size hb w #[.int .i64 9, .bool vw, .int .i64 0, .string ⟨#[]⟩, .slice ob bl bc, .slice ow wl wc, .int .u64 ba, .int .i64 fr, .int .i64 ln] ∧ Below W.heap.size W W4 ∧ W.heap.size ≤ W3.heap.size ∧ W.heap.size ≠ W3.heap.size ∧ W1.heap.size ≠ W3.heap.size ∧ W2.heap.size ≠ W3.heap.size) := by
    refine hid ⟨⟨box_of (b4.block _ (by omega)) (box_of (b3.block _ (by omega)) (box_of (b2.block _ (by omega)) x1)), box_of (b4.block _ (by omega)) (box_of (b3.block _ (by omega)) x2), (b4.block _ (by omega)).trans x3⟩, ?_, by omega, by omega, by omega, by omega⟩
    exact ((b1.trans (b2.mono (by omega))).trans (b3.mono (by omega))).trans (b4.mono (by omega))
  have FR := hid f4
  clear b1 s1 x1 b2 s2 x2 b3 s3 x3 b4 f4
  go_enter Tryz.func55, Tryz.ntmps55
  go_upto_region 1 with fail
  clear hW1 hW2 hW3 hW4
  go_wp2
  refine bodyPost_ret (pair_ret rfl _ _ W3.heap.size _ _ (0, 0) rfl (two_set FR.out _ _)) rfl ?_
  obtain ⟨a4, hB4, l3, n0, n1, n2⟩ := at4.out
  exact ⟨_, _, _, rfl, two_below hB4 l3 _ _, box_of (two_far _ _ _ _ _ n0) a4.h, box_of (two_far _ _ _ _ _ n1) a4.x, (two_far _ _ _ _ _ n2).trans a4.c⟩
section
variable {W W' : World} {hb sb : Nat} {vc : Value} {T : Nat → Prop} {H : List (Option Hc)} {u h : Nat}
theorem words2_c (g : HLay W hb sb vc T H u h) (w : Nat) (hw : w < 18446744073709551616) (id : Nat) (hi : hit H w = some id) (ws : List Nat) (hc : H[id]? = some (some (.row ws))) (i : Nat) (hj : i < ws.length) (x : Nat) (hx : x < 18446744073709551616) (hv : isVal H x = true) {Bh Bx Bc : Nat} {row : Array Value} (r : WordAt W Bh Bx Bc hb w row) (vk va vb vr : Int) (vt : ByteArray) :
    Calls Tryz.prog 98 #[.int .i64 i, .int .u64 x, .agg #[.int .i64 vk, .int .i64 va, .int .u64 vb, .string vt, .int .u64 vr], .pointer (some ⟨Bh, 0, none⟩), .pointer (some ⟨Bx, 0, none⟩)] W fun e w' => e = .returned (.int .i64 0) ∧ Upd T W w' ∧ HLay w' hb sb vc T (H.set id (some (.row (ws.set i x)))) u h := by
  have hB1 : Below W.heap.size W (W.alloc (.cells #[.int .i64 vk, .int .i64 va, .int .u64 vb, .string vt, .int .u64 vr] 33)) := (Below.refl _ W).alloc (Nat.le_refl _) _
  have cs0 := hset_c g w hw id hi ws hc i hj x hx hv
  have cs1 := hset_c (g.below hB1) w hw id hi ws hc i hj x hx hv
  have e1 := (r.below hB1).h.cell
  have e2 := (r.below hB1).x.cell
  generalize (H.set id (some (.row (ws.set i x)))) = HH at *
  generalize hW1 : W.alloc (.cells #[.int .i64 vk, .int .i64 va, .int .u64 vb, .string vt, .int .u64 vr] 33) = W1 at *
  have HB := hid hB1
  clear g hi hc hj hx hv r hB1 cs0
  go_enter Tryz.func98, Tryz.ntmps98
  go_wp2_with (go_at_call 99; (with_reducible refine cs1.mono ?_); rintro e w3 ⟨rfl, hU, hL⟩; clear cs1)
  go_ret
  exact ⟨rfl, (Upd.of_below HB.out).trans' hU, hL⟩
end
end Go.Proofs.YtikgicepdalfpaaGreat.W
/- Package buf: pairOf of a row; what a row's word is loaded by. -/
namespace Go.Proofs.YtikgicepdalfpaaGreat.W
open Go.ChangeShapes Go.WideShapes Go.RowKit Go.Shelf
set_option linter.unusedVariables false
theorem words1_c (W : World) (hb w : Nat) (vw : Bool) (ob : Option Addr) (gb : Nat) (bl bc wl wc : Nat) (ba fr ln : Int) {Bh Bx Bc : Nat} (r : WordAt W Bh Bx Bc hb w #[.int .i64 9, .bool vw, .int .i64 0, .string ⟨#[]⟩, .slice ob bl bc, .slice (some ⟨gb, 0, none⟩) wl wc, .int .u64 ba, .int .i64 fr, .int .i64 ln]) (i : Nat) (hi : i < wl) (x : Nat) (hx : W.cell? ⟨gb, i, none⟩ = some (.int .u64 (x : Nat))) :
    Calls Tryz.prog 97 #[.int .i64 i, .pointer (some ⟨Bc, 0, none⟩)] W fun e w' => e = .returned (.int .u64 (x : Nat)) ∧ Below W.heap.size W w' := by
  have e1 := fun j => cell_of_row W Bc j _ _ _ r.c
  have h0 : ¬ (i : Int) < 0 := by omega
  have h1 : (i : Int) < wl := by omega
  clear r
  go_enter Tryz.func97, Tryz.ntmps97
  go_wp2
  go_ret
  exact ⟨rfl, Below.refl _ _⟩
set_option maxRecDepth 100000 in
theorem pairOf_words (W : World) (hb w : Nat) (vw : Bool) (ob ow : Option Addr) (bl bc wl wc : Nat) (ba fr ln : Int) : Calls Tryz.prog 26 #[.pointer (some ⟨hb, 0, none⟩), .int .u64 (w : Nat), .agg #[.int .i64 9, .bool vw, .int .i64 0, .string ⟨#[]⟩, .slice ob bl bc, .slice ow wl wc, .int .u64 ba, .int .i64 fr, .int .i64 ln]] W fun e w' => ∃ Bh Bx Bc, e = .returned (.agg #[(.func (.func 97) #[] #[.pointer (some ⟨Bc, 0, none⟩)]), (.func (.func 98) #[] #[.pointer (some ⟨Bh, 0, none⟩), .pointer (some ⟨Bx, 0, none⟩)])]) ∧ Below W.heap.size W w' ∧ WordAt w' Bh Bx Bc hb w #[.int .i64 9, .bool vw, .int .i64 0, .string ⟨#[]⟩, .slice ob bl bc, .slice ow wl wc, .int .u64 ba, .int .i64 fr, .int .i64 ln] := by
  have hB1 : Below W.heap.size W (W.alloc (.cells #[.int .i64 9, .bool vw, .int .i64 0, .string ⟨#[]⟩, .slice ob bl bc, .slice ow wl wc, .int .u64 ba, .int .i64 fr, .int .i64 ln] 50)) := (Below.refl _ W).alloc (Nat.le_refl _) _
  have hs1 : (W.alloc (.cells #[.int .i64 9, .bool vw, .int .i64 0, .string ⟨#[]⟩, .slice ob bl bc, .slice ow wl wc, .int .u64 ba, .int .i64 fr, .int .i64 ln] 50)).heap.size = W.heap.size + 1 := World.size_alloc ..
  have f1 := World.alloc_heap_new W (.cells #[.int .i64 9, .bool vw, .int .i64 0, .string ⟨#[]⟩, .slice ob bl bc, .slice ow wl wc, .int .u64 ba, .int .i64 fr, .int .i64 ln] 50)
  generalize hW1 : W.alloc (.cells #[.int .i64 9, .bool vw, .int .i64 0, .string ⟨#[]⟩, .slice ob bl bc, .slice ow wl wc, .int .u64 ba, .int .i64 fr, .int .i64 ln] 50) = W1 at *
  have hB2 : Below W1.heap.size W1 (W1.alloc (.cells #[.nilFunc, .nilFunc] 65)) := (Below.refl _ W1).alloc (Nat.le_refl _) _
  have f2 := World.alloc_heap_new W1 (.cells #[.nilFunc, .nilFunc] 65)
  have f12 := (hB2.block _ (by omega)).trans f1
  generalize hW2 : W1.alloc (.cells #[.nilFunc, .nilFunc] 65) = W2 at *
  have e2 := fun j => cell_of_row W2 W.heap.size j _ _ _ f12
  have cr := words_pair W2 hb w vw ob ow bl bc wl wc ba fr ln
  have kp : Hid (∀ w4, Below W2.heap.size W2 w4 → w4.heap[W1.heap.size]? = some (.cells #[.nilFunc, .nilFunc] 65) ∧ Below W.heap.size W w4) := by
    show ∀ w4, _
    intro w4 hB4
    have := hB2.size
    exact ⟨(hB4.block _ (lt_get f2)).trans f2, (hB1.trans (hB2.mono hB1.size)).trans (hB4.mono (by have := hB1.size; omega))⟩
  have HS1 : Hid (W.heap.size ≤ W1.heap.size) := hid hB1.size
  clear hB1 hs1 f1 hB2 f2 f12
  go_enter Tryz.func26, Tryz.ntmps26
  go_upto_region 1 with fail
  clear hW1 hW2
  go_wp2_with (go_at_call 55; (with_reducible refine cr.mono ?_); rintro e w4 ⟨Bh, Bx, Bc, rfl, hB4, hP4⟩; clear cr; (obtain ⟨f4, hB5⟩ := kp.out w4 hB4); (have eR := fun j => cell_of_row w4 W1.heap.size j _ _ _ f4); (have zR := (fun j => by simp [World.frozen?, f4] : ∀ j, w4.frozen? ⟨W1.heap.size, j, none⟩ = false)); (have FR := hid f4); (have HB := hid hB5); (have HP := hid hP4); clear f4 hB5 hP4 hB4 e2)
  refine bodyPost_ret (pair_ret rfl _ _ W1.heap.size _ _ (0, 0) rfl (two_set FR.out _ _)) rfl ?_
  refine ⟨Bh, Bx, Bc, rfl, two_below HB.out HS1.out _ _, ?_⟩
  have ne : ∀ {B t : Nat} {v : Value}, Boxed w4 B t v → B ≠ W1.heap.size := by
    intro B t v hb e
    subst e
    have := FR.out
    unfold Boxed at hb
    rw [hb] at this
    simp at this
  have nc : Bc ≠ W1.heap.size := by
    intro e
    have h1 := HP.out.c
    rw [e, FR.out] at h1
    simp at h1
  exact ⟨box_of (two_far _ _ _ _ _ (ne HP.out.h)) HP.out.h, box_of (two_far _ _ _ _ _ (ne HP.out.x)) HP.out.x, (two_far _ _ _ _ _ nc).trans HP.out.c⟩
end Go.Proofs.YtikgicepdalfpaaGreat.W
/- Package buf: Load and Store of a row. -/
namespace Go.Proofs.YtikgicepdalfpaaGreat.W
open Go.ChangeShapes Go.WideShapes Go.RowKit Go.Shelf
set_option linter.unusedVariables false
section
variable {W W' : World} {hb sb : Nat} {vc : Value} {T : Nat → Prop} {H : List (Option Hc)} {u h : Nat}
set_option maxRecDepth 100000 in
theorem load_words (g : HLay W hb sb vc T H u h) (w : Nat) (hw : w < 18446744073709551616) (id : Nat) (hid0 : hit H w = some id) (ws : List Nat) (hc : H[id]? = some (some (.row ws))) (i : Nat) (hi : i < ws.length) :
    Calls Tryz.prog 8 #[.pointer (some ⟨hb, 0, none⟩), .int .u64 w, .int .i64 i] W fun e w' => e = .returned (.tuple #[.int .u64 (ws[i] : Nat), .int .i64 0]) ∧ Below W.heap.size W w' := by
  have hcnt : i < (Hc.row ws).cnt := hi
  have ce0 := elem_c g w hw id hid0 (.row ws) hc trivial i (by omega) (by omega)
  have ce : Calls Tryz.prog 24 #[.pointer (some ⟨hb, 0, none⟩), .int .u64 w, .int .i64 i] W fun e w' => ∃ ob bc gb wc, e = .returned (.tuple #[.agg #[.int .i64 9, .bool (Hc.row ws).cl.view, .int .i64 0, .string ⟨#[]⟩, .slice ob (Hc.row ws).bl bc, .slice (some ⟨gb, 0, none⟩) ws.length wc, .int .u64 (Hc.row ws).cl.base, .int .i64 (Hc.row ws).cl.frm, .int .i64 (Hc.row ws).cl.len], .int .i64 0]) ∧ Below W.heap.size W w' ∧ w'.cell? ⟨gb, i, none⟩ = some (.int .u64 (ws[i] : Nat)) := by
    refine ce0.mono ?_
    rintro e w' ⟨ob, bc, ow, wc, rfl, hB, ho⟩
    rcases ho.2 with ⟨e1, h0⟩ | ⟨gb, cap, cur, e1, _⟩
    · exact absurd h0 (by show ¬ ws.length = 0; omega)
    · cases e1
      exact ⟨ob, bc, gb, wc, rfl, hB, own_at ho i _ (by unfold wds; rw [List.getElem?_map]; show (ws[i]?).map _ = _; rw [List.getElem?_eq_getElem hi]; rfl)⟩
  have hl : ws.length ≤ 1048576 := (g.ok id _ hc).2
  have hiw : IntKind.i64.wrap (i : Int) = i := by rw [IntKind.wrap_i64]; omega
  generalize ws[i] = X at *
  generalize (Hc.row ws).cl.view = vw at *
  generalize (Hc.row ws).bl = bl at *
  generalize (Hc.row ws).cl.base = ba at *
  generalize (Hc.row ws).cl.frm = fr at *
  generalize (Hc.row ws).cl.len = ln at *
  have HI := hid hi
  generalize ws.length = wl at *
  clear ce0 g hc hcnt hid0 hl hi
  go_enter Tryz.func8, Tryz.ntmps8
  go_upto_region 2 with (go_at_call 24; (with_reducible refine ce.mono ?_); rintro e w2 ⟨ob, bc, gb, wc, rfl, hB2, hx2⟩; clear ce)
  have hB3 : Below w2.heap.size w2 (w2.alloc (.cells #[.int .i64 9, .bool vw, .int .i64 0, .string ⟨#[]⟩, .slice ob bl bc, .slice (some ⟨gb, 0, none⟩) wl wc, .int .u64 ba, .int .i64 fr, .int .i64 ln] 50)) := (Below.refl _ w2).alloc (Nat.le_refl _) _
  have e3 := World.cell?_alloc_new w2 #[.int .i64 9, .bool vw, .int .i64 0, .string ⟨#[]⟩, .slice ob bl bc, .slice (some ⟨gb, 0, none⟩) wl wc, .int .u64 ba, .int .i64 fr, .int .i64 ln] 50
  have hbel := hB2.trans (hB3.mono hB2.size)
  have hx3 := below_cell hB3 hx2
  generalize w2.alloc (.cells #[.int .i64 9, .bool vw, .int .i64 0, .string ⟨#[]⟩, .slice ob bl bc, .slice (some ⟨gb, 0, none⟩) wl wc, .int .u64 ba, .int .i64 fr, .int .i64 ln] 50) = w3 at *
  have cp := pairOf_words w3 hb w vw ob (some ⟨gb, 0, none⟩) bl bc wl wc ba fr ln
  have HBel := hid hbel
  have HX := hid hx3
  have pf := fun f g cs ds w => pair_f0 f g cs ds w
  clear hB2 hB3 hbel hx2 hx3
  go_wp2_with (first | (go_at_call 26; (with_reducible refine cp.mono ?_); rintro e w4 ⟨Bh, Bx, Bc, rfl, hB4, hP4⟩; clear cp; (have cv := words1_c w4 hb w vw ob gb bl bc wl wc ba fr ln hP4 i HI.out X (below_cell hB4 HX.out))) | (go_at_call 97; (with_reducible refine cv.mono ?_); rintro e w5 ⟨rfl, hB5⟩; clear cv))
  go_ret2
  exact ⟨rfl, (HBel.out.trans (hB4.mono HBel.out.size)).trans (hB5.mono (by have := HBel.out.size; have := hB4.size; omega))⟩
set_option maxRecDepth 100000 in
set_option maxHeartbeats 1000000 in
/-- Store, over what Unbox answers and what the pair does -/
theorem store_words (g : HLay W hb sb vc T H u h) (w : Nat) (hw : w < 18446744073709551616) (id : Nat) (hid0 : hit H w = some id) (ws : List Nat) (hc : H[id]? = some (some (.row ws))) (i : Nat) (hi : i < ws.length) (xw : Nat) (hxw : xw < 18446744073709551616) (hva : isVal H xw = true) (vk va vb vr : Int) (vt : ByteArray)
    (hun : ∀ w2, Below W.heap.size W w2 → Calls Tryz.prog 25 #[.pointer (some ⟨hb, 0, none⟩), .int .u64 xw] w2 fun e w' => e = .returned (.tuple #[.agg #[.int .i64 vk, .int .i64 va, .int .u64 vb, .string vt, .int .u64 vr], .int .i64 0]) ∧ Below w2.heap.size w2 w') :
    Calls Tryz.prog 7 #[.pointer (some ⟨hb, 0, none⟩), .int .u64 w, .int .i64 i, .int .u64 xw] W fun e w' => e = .returned (.int .i64 0) ∧ Upd T W w' ∧ HLay w' hb sb vc T (H.set id (some (.row (ws.set i xw)))) u h := by
  have hcnt : i < (Hc.row ws).cnt := hi
  have ce := elem_c g w hw id hid0 (.row ws) hc trivial i (by omega) (by omega)
  unfold ThPost at ce
  rw [show (Hc.row ws).cl.kind = 9 from rfl] at ce
  have hl : ws.length ≤ 1048576 := (g.ok id _ hc).2
  have hiw : IntKind.i64.wrap (i : Int) = i := by rw [IntKind.wrap_i64]; omega
  have hcl : ∀ w4 Bh Bx Bc row, Below W.heap.size W w4 → WordAt w4 Bh Bx Bc hb w row → Calls Tryz.prog 98 #[.int .i64 i, .int .u64 xw, .agg #[.int .i64 vk, .int .i64 va, .int .u64 vb, .string vt, .int .u64 vr], .pointer (some ⟨Bh, 0, none⟩), .pointer (some ⟨Bx, 0, none⟩)] w4 fun e w' => e = .returned (.int .i64 0) ∧ Upd T w4 w' ∧ HLay w' hb sb vc T (H.set id (some (.row (ws.set i xw)))) u h := fun w4 Bh Bx Bc row hB hP => words2_c (g.below hB) w hw id hid0 ws hc i hi xw hxw hva hP vk va vb vr vt
  generalize (H.set id (some (.row (ws.set i xw)))) = HH at *
  have HV := hid hcl
  have HU := hid hun
  have HT : Hid (∀ k, T k → k < W.heap.size) := hid g.tlt
  generalize (Hc.row ws).cl.view = vw at *
  generalize (Hc.row ws).bl = bl at *
  generalize (Hc.row ws).wl = wl at *
  generalize (Hc.row ws).cl.base = ba at *
  generalize (Hc.row ws).cl.frm = fr at *
  generalize (Hc.row ws).cl.len = ln at *
  clear g hi hcl hun hc hcnt hid0 hl hxw hva
  go_enter Tryz.func7, Tryz.ntmps7
  go_upto_region 2 with (go_at_call 24; (with_reducible refine ce.mono ?_); rintro e w2 ⟨ob, bc, ow, wc, rfl, hB2, ho⟩; clear ce ho)
  have hB3 : Below w2.heap.size w2 (w2.alloc (.cells #[.int .i64 9, .bool vw, .int .i64 0, .string ⟨#[]⟩, .slice ob bl bc, .slice ow wl wc, .int .u64 ba, .int .i64 fr, .int .i64 ln] 50)) := (Below.refl _ w2).alloc (Nat.le_refl _) _
  have f3 := World.alloc_heap_new w2 (.cells #[.int .i64 9, .bool vw, .int .i64 0, .string ⟨#[]⟩, .slice ob bl bc, .slice ow wl wc, .int .u64 ba, .int .i64 fr, .int .i64 ln] 50)
  have hbel := hB2.trans (hB3.mono hB2.size)
  have hz2 := hB2.size
  generalize w2.alloc (.cells #[.int .i64 9, .bool vw, .int .i64 0, .string ⟨#[]⟩, .slice ob bl bc, .slice ow wl wc, .int .u64 ba, .int .i64 fr, .int .i64 ln] 50) = w3 at *
  generalize w2.heap.size = B9 at *
  have cu := HU.out w3 hbel
  go_upto_region 5 with (go_at_call 25; (with_reducible refine cu.mono ?_); rintro e w4 ⟨rfl, hB4⟩; clear cu)
  have hB5 : Below w4.heap.size w4 (w4.alloc (.cells #[.int .i64 vk, .int .i64 va, .int .u64 vb, .string vt, .int .u64 vr] 33)) := (Below.refl _ w4).alloc (Nat.le_refl _) _
  have f5 := World.alloc_heap_new w4 (.cells #[.int .i64 vk, .int .i64 va, .int .u64 vb, .string vt, .int .u64 vr] 33)
  have f35 : (w4.alloc (.cells #[.int .i64 vk, .int .i64 va, .int .u64 vb, .string vt, .int .u64 vr] 33)).heap[B9]? = some (.cells #[.int .i64 9, .bool vw, .int .i64 0, .string ⟨#[]⟩, .slice ob bl bc, .slice ow wl wc, .int .u64 ba, .int .i64 fr, .int .i64 ln] 50) := (hB5.block B9 (Nat.lt_of_lt_of_le (lt_get f3) hB4.size)).trans ((hB4.block B9 (lt_get f3)).trans f3)
  have hbel5 := (hbel.trans (hB4.mono hbel.size)).trans (hB5.mono (Nat.le_trans hbel.size hB4.size))
  have hz4 : W.heap.size ≤ w4.heap.size := Nat.le_trans hbel.size hB4.size
  generalize w4.alloc (.cells #[.int .i64 vk, .int .i64 va, .int .u64 vb, .string vt, .int .u64 vr] 33) = w5 at *
  generalize w4.heap.size = B11 at *
  have nT : Hid (¬ T B9 ∧ ¬ T B11) := hid ⟨fun e => by have := HT.out _ e; omega, fun e => by have := HT.out _ e; omega⟩
  clear hB4 hB5 hB2 hB3 hbel f3 HU hz2 hz4 HT
  go_upto_region 7 with fail
  have hBd : Below W.heap.size W w5.drew := ⟨hbel5.os, hbel5.tape, hbel5.output, hbel5.size, hbel5.block⟩
  have pf := fun f g cs ds w => pair_f1 f g cs ds w
  have cp := pairOf_words w5.drew hb w vw ob ow bl bc wl wc ba fr ln
  refine wp_region_held_drew (S := fun w' => w'.heap[B9]? = some (.cells #[.int .i64 9, .bool vw, .int .i64 0, .string ⟨#[]⟩, .slice ob bl bc, .slice ow wl wc, .int .u64 ba, .int .i64 fr, .int .i64 ln] 50) ∧ w'.heap[B11]? = some (.cells #[.int .i64 vk, .int .i64 va, .int .u64 vb, .string vt, .int .u64 vr] 33)) (by kernel_rfl) ⟨f35, f5⟩ ?_
  intro hS
  (refine wpAnyH_take (i := 0) (v := ?_) rfl (by kernel_rfl) (by kernel_rfl) (by kernel_rfl) (fun _ _ _ h => h) (Or.inl ⟨by rfl, ?_⟩) hS ?_); rotate_left; (focus (intro w' hSw; (have ec := fun j => cell_of_row w' B9 j _ _ _ hSw.1); (have ev := fun j => cell_of_row w' B11 j _ _ _ hSw.2); go_simp; (try with_reducible rfl)))
  (refine wpAnyH_take (i := 1) (v := ?_) rfl (by kernel_rfl) (by kernel_rfl) (by kernel_rfl) (fun _ _ _ h => h) (Or.inl ⟨by rfl, ?_⟩) hS ?_); rotate_left; (focus (intro w' hSw; (have ec := fun j => cell_of_row w' B9 j _ _ _ hSw.1); (have ev := fun j => cell_of_row w' B11 j _ _ _ hSw.2); go_simp; (try with_reducible rfl)))
  (refine wpAnyH_take (i := 2) (v := ?_) rfl (by kernel_rfl) (by kernel_rfl) (by kernel_rfl) (fun _ _ _ h => h) (Or.inl ⟨by rfl, ?_⟩) hS ?_); rotate_left; (focus (intro w' hSw; (have ec := fun j => cell_of_row w' B9 j _ _ _ hSw.1); (have ev := fun j => cell_of_row w' B11 j _ _ _ hSw.2); go_simp; (try with_reducible rfl)))
  (refine wpAnyH_take (i := 5) (v := ?_) rfl (by kernel_rfl) (by kernel_rfl) (by kernel_rfl) (fun _ _ _ h => h) (Or.inl ⟨by rfl, ?_⟩) hS ?_); rotate_left; (focus (intro w' hSw; (have ec := fun j => cell_of_row w' B9 j _ _ _ hSw.1); (have ev := fun j => cell_of_row w' B11 j _ _ _ hSw.2); go_simp; (try with_reducible rfl)))
  (refine wpAnyH_take (i := 6) (v := ?_) rfl (by kernel_rfl) (by kernel_rfl) (by kernel_rfl) (fun _ _ _ h => h) (Or.inl ⟨by rfl, ?_⟩) hS ?_); rotate_left; (focus (intro w' hSw; (have ec := fun j => cell_of_row w' B9 j _ _ _ hSw.1); (have ev := fun j => cell_of_row w' B11 j _ _ _ hSw.2); go_simp; (try with_reducible rfl)))
  (refine wpAnyH_take (i := 7) (v := ?_) rfl (by kernel_rfl) (by kernel_rfl) (by kernel_rfl) (fun _ _ _ h => h) (Or.inl ⟨by rfl, ?_⟩) hS ?_); rotate_left; (focus (intro w' hSw; (have ec := fun j => cell_of_row w' B9 j _ _ _ hSw.1); (have ev := fun j => cell_of_row w' B11 j _ _ _ hSw.2); go_simp; (try with_reducible rfl)))
  refine wpAnyH_ready (rs := [3]) (by kernel_rfl) (by simp) ?_
  refine AllReadyH.cons rfl (fun K hK => ?_) AllReadyH.nil
  go_simp
  refine cp.mono ?_
  rintro e w6 ⟨Bh, Bx, Bc, rfl, hB6, hP6⟩
  have hS6 : w6.heap[B9]? = some (.cells #[.int .i64 9, .bool vw, .int .i64 0, .string ⟨#[]⟩, .slice ob bl bc, .slice ow wl wc, .int .u64 ba, .int .i64 fr, .int .i64 ln] 50) ∧ w6.heap[B11]? = some (.cells #[.int .i64 vk, .int .i64 va, .int .u64 vb, .string vt, .int .u64 vr] 33) := ⟨(hB6.block B9 (lt_get hS.1)).trans hS.1, (hB6.block B11 (lt_get hS.2)).trans hS.2⟩
  have cv := HV.out w6 Bh Bx Bc _ (hBd.trans (hB6.mono hBd.size)) hP6
  refine hK.out _ _ hS6 (fun _ => ?_)
  clear hK K cp hS
  have hS := hS6
  (refine wpAnyH_take (i := 4) (v := ?_) rfl (by kernel_rfl) (by kernel_rfl) (by kernel_rfl) (fun _ _ _ h => h) (Or.inl ⟨by rfl, ?_⟩) hS ?_); rotate_left; (focus (intro w' hSw; go_simp; (try with_reducible rfl)))
  refine wpAnyH_ready (rs := [8]) (by kernel_rfl) (by simp) ?_
  refine AllReadyH.cons rfl (fun K hK => ?_) AllReadyH.nil
  go_simp
  refine cv.mono ?_
  rintro e w7 ⟨rfl, hU7, hP7⟩
  have hS7 : w7.heap[B9]? = some (.cells #[.int .i64 9, .bool vw, .int .i64 0, .string ⟨#[]⟩, .slice ob bl bc, .slice ow wl wc, .int .u64 ba, .int .i64 fr, .int .i64 ln] 50) ∧ w7.heap[B11]? = some (.cells #[.int .i64 vk, .int .i64 va, .int .u64 vb, .string vt, .int .u64 vr] 33) := ⟨(hU7.block B9 (lt_get hS.1) nT.out.1).trans hS.1, (hU7.block B11 (lt_get hS.2) nT.out.2).trans hS.2⟩
  have hUW : Upd T W w7 := (Upd.of_below (hBd.trans (hB6.mono hBd.size))).trans' hU7
  refine hK.out _ _ hS7 (fun _ => ?_)
  clear hK K cv hS hS6
  have hS := hS7
  (refine wpAnyH_take (i := 9) (v := ?_) rfl (by kernel_rfl) (by kernel_rfl) (by kernel_rfl) (fun _ _ _ h => h) (Or.inl ⟨by rfl, ?_⟩) hS ?_); rotate_left; (focus (intro w' hSw; go_simp; (try with_reducible rfl)))
  refine wpAnyH_done (by kernel_rfl) ?_ _
  go_wp2
  go_ret
  exact ⟨rfl, hUW, hP7⟩
end
end Go.Proofs.YtikgicepdalfpaaGreat.W
