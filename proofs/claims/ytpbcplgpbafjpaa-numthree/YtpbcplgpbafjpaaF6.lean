/- Plain facts on what package soft answers, by the exact numbers: quotients of whole numbers; by one, by itself, to nought. -/
import Derived.Test.YtpbcplgpbafjpaaF5
namespace Go.Proofs.Ytpbcplgpbafjpaa.W
open Ieee

theorem log_key {m V : Nat} {p : Int} (h1 : -1074 ≤ p) (hV : V ≠ 0) (h : m * 2 ^ (p + 1074).toNat = V * one1) : m ≠ 0 ∧ (m.log2 : Int) + p = V.log2 := by
  have hp := one1_pos
  have hm : m ≠ 0 := by
    intro g
    rw [g, Nat.zero_mul] at h
    rcases Nat.mul_eq_zero.1 h.symm with g' | g' <;> omega
  refine ⟨hm, ?_⟩
  obtain ⟨K, hK⟩ : ∃ K, K = 1074 := ⟨1074, rfl⟩
  have e := congrArg Nat.log2 h
  rw [← pow_one1 hK, log2_shift m _ hm, log2_shift V K hV] at e
  omega
theorem quo_nearest (a b : Int) {s t : Bool} {m n : Nat} {p q : Int} (ea : Ieee.double.read a.toNat = .number s m p) (eb : Ieee.double.read b.toNat = .number t n q) (hn : n ≠ 0) :
    opI .quo a b = (Ieee.double.nearest (s ^^ t) (2 * (m * 2 ^ (54 + n.log2 - m.log2) / n) + (m * 2 ^ (54 + n.log2 - m.log2) % n != 0).toNat) (p - q - (54 + n.log2 - m.log2 : Nat) - 1) : Nat) := by
  unfold opI
  have : floatBits .quo .f64 a.toNat b.toNat = ((Ieee.double.read a.toNat).quotient 54 (Ieee.double.read b.toNat)).map Ieee.double.write := rfl
  rw [this, ea, eb]
  simp only [Datum.quotient, if_neg hn, Nat.shiftLeft_eq]
  rfl
theorem arr (i n x y e f : Nat) (h : x * y = e * f) : i * (n * y) * x = i * e * n * f := by
  have h1 : i * (n * y) * x = i * n * (x * y) := by ac_rfl
  rw [h1, h]
  ac_rfl
theorem div_exact (a b i j : Int) (a1 : a < 18446744073709551616) (b1 : b < 18446744073709551616) (fa : finB a = true) (fb : finB b = true)
    (ha : keyI a = i * j * one1) (hb : keyI b = j * one1) (hj : j ≠ 0) (hij : (i * j).natAbs < 9007199254740992) (hi : i.natAbs ≤ 9007199254740992) :
    finB (opI .quo a b) = true ∧ keyI (opI .quo a b) = i * one1 := by
  obtain ⟨s, m, p, ea⟩ := fin_read a fa
  obtain ⟨t, n, q, eb⟩ := fin_read b fb
  obtain ⟨m1, hp, -, -, -⟩ := read_number (by omega) ea
  obtain ⟨n1, hq, -, -, -⟩ := read_number (by omega) eb
  unfold keyI at ha hb
  rw [ea] at ha
  rw [eb] at hb
  simp only [key, signed_v] at ha hb
  have va := abs_key ha
  have vb := abs_key hb
  obtain ⟨hn, ln⟩ := log_key hq (by omega) vb
  rw [quo_nearest a b ea eb hn]
  by_cases i0 : i = 0
  · have hm : m = 0 := by
      rw [i0, Int.zero_mul, Int.natAbs_zero, Nat.zero_mul] at va
      rcases Nat.mul_eq_zero.1 va with g | g
      · exact g
      · have := Nat.two_pow_pos (p + 1074).toNat
        omega
    subst hm
    have e0 : Ieee.double.nearest (s ^^ t) (2 * (0 * 2 ^ (54 + n.log2 - (0 : Nat).log2) / n) + (0 * 2 ^ (54 + n.log2 - (0 : Nat).log2) % n != 0).toNat) (p - q - (54 + n.log2 - (0 : Nat).log2 : Nat) - 1) = Ieee.double.nearest (s ^^ t) 0 0 := by
      unfold Format.nearest
      simp
    rw [e0, i0]
    exact near_key (s ^^ t) 0 0 0 (by omega) (by decide) (by rw [Int.natAbs_zero, Nat.zero_mul, Nat.zero_mul]) (fun h => absurd rfl h)
  · have hij0 : i * j ≠ 0 := Int.mul_ne_zero i0 hj
    obtain ⟨hm, lm⟩ := log_key hp (by omega) va
    have lm2 : m.log2 ≤ 52 := by
      have : m.log2 < 53 := (Nat.log2_lt hm).2 (by omega)
      omega
    have ln2 : n.log2 ≤ 52 := by
      have : n.log2 < 53 := (Nat.log2_lt hn).2 (by omega)
      omega
    have lij : (i * j).natAbs.log2 < 53 := (Nat.log2_lt (by omega)).2 (by omega)
    have lj : j.natAbs.log2 < 53 := by
      refine (Nat.log2_lt (by omega)).2 ?_
      rw [Int.natAbs_mul] at hij
      have : 1 * j.natAbs ≤ i.natAbs * j.natAbs := Nat.mul_le_mul_right _ (by omega)
      omega
    generalize hM : 54 + n.log2 - m.log2 = M
    -- the dividend is the divisor times the answer's digits
    have hE : (0 : Int) ≤ M + q - p := by omega
    have key1 : m * 2 ^ M = i.natAbs * 2 ^ (M + q - p).toNat * n := by
      have c1 : m * 2 ^ (p + 1074).toNat = i.natAbs * (n * 2 ^ (q + 1074).toNat) := by
        rw [va, vb, Int.natAbs_mul, Nat.mul_assoc]
      refine Nat.eq_of_mul_eq_mul_right (Nat.two_pow_pos (p + 1074).toNat) ?_
      have x1 : 2 ^ M * 2 ^ (q + 1074).toNat = 2 ^ (M + q - p).toNat * 2 ^ (p + 1074).toNat := by
        rw [← Nat.pow_add, ← Nat.pow_add]
        exact congrArg (2 ^ ·) (by omega)
      rw [Nat.mul_right_comm, c1]
      exact arr _ _ _ _ _ _ x1
    rw [key1, Nat.mul_div_cancel _ (by omega), Nat.mul_mod_left]
    refine near_key _ _ _ i (by omega) hi ?_ ?_
    · simp only [bne_self_eq_false, Bool.toNat_false, Nat.add_zero]
      have x2 : 2 * (i.natAbs * 2 ^ (M + q - p).toNat) * 2 ^ (p - q - (M : Nat) - 1 + 2148).toNat = i.natAbs * 2 ^ (1 + (M + q - p).toNat + (p - q - (M : Nat) - 1 + 2148).toNat) := by
        rw [Nat.pow_add, Nat.pow_add, Nat.pow_one]
        generalize 2 ^ (M + q - p).toNat = x
        generalize 2 ^ (p - q - (M : Nat) - 1 + 2148).toNat = y
        rw [← Nat.mul_assoc, Nat.mul_comm 2, ← Nat.mul_assoc, ← Nat.mul_assoc]
      rw [x2, one1_sq (by omega)]
    · intro _
      rw [sign_key ha hij0, sign_key hb hj]
      by_cases g1 : i < 0 <;> by_cases g2 : j < 0
      · have : 0 < i * j := Int.mul_pos_of_neg_of_neg g1 g2
        have h3 : ¬ i * j < 0 := by omega
        simp [g1, g2, h3]
      · have : i * j < 0 := Int.mul_neg_of_neg_of_pos g1 (by omega)
        simp [g1, g2, this]
      · have : i * j < 0 := Int.mul_neg_of_pos_of_neg (by omega) g2
        simp [g1, g2, this]
      · have : 0 < i * j := Int.mul_pos (by omega) (by omega)
        have h3 : ¬ i * j < 0 := by omega
        simp [g1, g2, h3]

/-! ### by one, by itself, to nought -/
theorem read_one : Ieee.double.read (4607182418800017408 : Int).toNat = .number false 4503599627370496 (-52) := by decide +kernel
theorem read_two : Ieee.double.read (4611686018427387904 : Int).toNat = .number false 4503599627370496 (-51) := by decide +kernel
theorem read_zero : Ieee.double.read (0 : Int).toNat = .number false 0 (-1074) := by decide +kernel
/-- a pattern that is no NaN is a number's or an infinity's -/
theorem plain_read (a : Int) (h0 : 0 ≤ a) (hn : nanB a = false) : (∃ s m p, Ieee.double.read a.toNat = .number s m p) ∨ ∃ s, Ieee.double.read a.toNat = .infinity s := by
  cases e : Ieee.double.read a.toNat with
  | number s m p => exact Or.inl ⟨s, m, p, rfl⟩
  | infinity s => exact Or.inr ⟨s, rfl⟩
  | nan s t => have := nan_of a h0; rw [e, hn] at this; cases this
theorem opI_nan (op : BinOp) (a b : Int) (h0 : 0 ≤ a) (hn : nanB a = true) : opI op a b = 9221120237041090560 := by
  have e := nan_of a h0
  rw [hn] at e
  have h : floatBits op .f64 a.toNat b.toNat = none := by
    cases ea : Ieee.double.read a.toNat with
    | number s m p => rw [ea] at e; cases e
    | infinity s => rw [ea] at e; cases e
    | nan s t =>
      have x1 : floatBits .add .f64 a.toNat b.toNat = ((Ieee.double.read a.toNat).sum (Ieee.double.read b.toNat)).map Ieee.double.write := rfl
      have x2 : floatBits .sub .f64 a.toNat b.toNat = ((Ieee.double.read a.toNat).sum (Ieee.double.read b.toNat).opposite).map Ieee.double.write := rfl
      have x3 : floatBits .mul .f64 a.toNat b.toNat = ((Ieee.double.read a.toNat).product (Ieee.double.read b.toNat)).map Ieee.double.write := rfl
      have x4 : floatBits .quo .f64 a.toNat b.toNat = ((Ieee.double.read a.toNat).quotient 54 (Ieee.double.read b.toNat)).map Ieee.double.write := rfl
      rw [ea] at x1 x2 x3 x4
      cases op
      case add => rw [x1]; rfl
      case sub => rw [x2]; rfl
      case mul => rw [x3]; rfl
      case quo => rw [x4]; rfl
      all_goals rfl
  unfold opI; rw [h]
theorem mul_one (a : Int) (h0 : 0 ≤ a) (h1 : a < 18446744073709551616) (hn : nanB a = false) : opI .mul a 4607182418800017408 = a := by
  have x : floatBits .mul .f64 a.toNat (4607182418800017408 : Int).toNat = ((Ieee.double.read a.toNat).product (Ieee.double.read (4607182418800017408 : Int).toNat)).map Ieee.double.write := rfl
  unfold opI
  rw [x, read_one]
  rcases plain_read a h0 hn with ⟨s, m, p, e⟩ | ⟨s, e⟩
  · rw [e]
    show ((Ieee.double.nearest (s ^^ false) (m * 4503599627370496) (p + -52) : Nat) : Int) = a
    have := nearest_shift Ieee.double s m 52 p
    rw [show (4503599627370496 : Nat) = 2 ^ 52 from by decide, Bool.xor_false, show p + -52 = p - (52 : Nat) from by omega, this, write_read (by omega) e]
    omega
  · rw [e]
    show ((Ieee.double.write (.infinity (s ^^ false)) : Nat) : Int) = a
    rw [Bool.xor_false, write_inf (by omega) e]
    omega
theorem div_one (a : Int) (h0 : 0 ≤ a) (h1 : a < 18446744073709551616) (hn : nanB a = false) : opI .quo a 4607182418800017408 = a := by
  rcases plain_read a h0 hn with ⟨s, m, p, e⟩ | ⟨s, e⟩
  · rw [quo_nearest a _ e read_one (by decide)]
    obtain ⟨m1, hp, -, -, -⟩ := read_number (by omega) e
    have lm : m.log2 ≤ 52 := by
      by_cases hm : m = 0
      · subst hm; decide
      · have : m.log2 < 53 := (Nat.log2_lt hm).2 (by omega)
        omega
    rw [show (4503599627370496 : Nat).log2 = 52 from by decide, show 54 + 52 - m.log2 = (106 - m.log2) from rfl]
    generalize hM : 106 - m.log2 = M
    have e1 : m * 2 ^ M = m * 2 ^ (M - 52) * 4503599627370496 := by
      rw [Nat.mul_assoc, show (4503599627370496 : Nat) = 2 ^ 52 from by decide, ← Nat.pow_add]
      exact congrArg (m * 2 ^ ·) (by omega)
    rw [e1, Nat.mul_div_cancel _ (by decide), Nat.mul_mod_left]
    simp only [bne_self_eq_false, Bool.toNat_false, Nat.add_zero, Bool.xor_false]
    have e2 : 2 * (m * 2 ^ (M - 52)) = m * 2 ^ (M - 51) := by
      rw [show M - 51 = M - 52 + 1 from by omega, Nat.pow_succ, Nat.mul_left_comm, Nat.mul_comm 2]
    have := nearest_shift Ieee.double s m (M - 51) p
    rw [e2, show p - -52 - (M : Nat) - 1 = p - (M - 51 : Nat) from by omega, this, write_read (by omega) e]
    omega
  · have x : floatBits .quo .f64 a.toNat (4607182418800017408 : Int).toNat = ((Ieee.double.read a.toNat).quotient 54 (Ieee.double.read (4607182418800017408 : Int).toNat)).map Ieee.double.write := rfl
    unfold opI
    rw [x, read_one, e]
    show ((Ieee.double.write (.infinity (s ^^ false)) : Nat) : Int) = a
    rw [Bool.xor_false, write_inf (by omega) e]
    omega
theorem sub_self_fin (a : Int) (hf : finB a = true) : opI .sub a a = 0 := by
  obtain ⟨s, m, p, e⟩ := fin_read a hf
  have x : floatBits .sub .f64 a.toNat a.toNat = ((Ieee.double.read a.toNat).sum (Ieee.double.read a.toNat).opposite).map Ieee.double.write := rfl
  unfold opI
  rw [x, e]
  simp only [Datum.opposite, Datum.sum]
  have e1 : signed s m (p - min p p).toNat + signed (!s) m (p - min p p).toNat = 0 := by
    rw [signed_v, signed_v]; cases s <;> simp <;> omega
  rw [e1]
  show ((Ieee.double.nearest (s && !s) 0 (min p p) : Nat) : Int) = 0
  cases s <;> rfl
theorem inf_read (a : Int) (h0 : 0 ≤ a) (h : a % 9223372036854775808 = 9218868437227405312) : ∃ s, Ieee.double.read a.toNat = .infinity s := by
  rw [read_eq, if_neg (by omega), if_neg (by omega), if_pos (by omega)]
  exact ⟨_, rfl⟩
theorem inf_self (a : Int) (h0 : 0 ≤ a) (h : a % 9223372036854775808 = 9218868437227405312) : opI .sub a a = 9221120237041090560 ∧ opI .quo a a = 9221120237041090560 := by
  obtain ⟨s, e⟩ := inf_read a h0 h
  have x : floatBits .sub .f64 a.toNat a.toNat = ((Ieee.double.read a.toNat).sum (Ieee.double.read a.toNat).opposite).map Ieee.double.write := rfl
  have y : floatBits .quo .f64 a.toNat a.toNat = ((Ieee.double.read a.toNat).quotient 54 (Ieee.double.read a.toNat)).map Ieee.double.write := rfl
  unfold opI
  rw [x, y, e]
  cases s <;> exact ⟨rfl, rfl⟩
theorem zero_self (a : Int) (h : a % 9223372036854775808 = 0) : opI .quo a a = 9221120237041090560 := by
  have e : Ieee.double.read a.toNat = .number (a.toNat / 9223372036854775808 % 2 == 1) 0 (-1074) := by
    rw [read_eq, if_pos (by omega), show a.toNat % 9223372036854775808 = 0 from by omega]
  have y : floatBits .quo .f64 a.toNat a.toNat = ((Ieee.double.read a.toNat).quotient 54 (Ieee.double.read a.toNat)).map Ieee.double.write := rfl
  unfold opI
  rw [y, e]
  rfl
theorem div_self (a : Int) (h0 : 0 ≤ a) (h1 : a < 18446744073709551616) (hf : finB a = true) (hz : a % 9223372036854775808 ≠ 0) : opI .quo a a = 4607182418800017408 := by
  obtain ⟨s, m, p, e⟩ := fin_read a hf
  obtain ⟨m1, hp, hp2, hmp, hx⟩ := read_number (by omega) e
  have hm : m ≠ 0 := by
    intro g
    have : p = -1074 := by omega
    subst this; subst g
    apply hz
    have : a.toNat = if s then 9223372036854775808 else 0 := by rw [hx]; simp
    cases s <;> simp at this <;> omega
  rw [quo_nearest a a e e hm, show 54 + m.log2 - m.log2 = 54 from by omega, Nat.mul_div_cancel_left _ (by omega), Nat.mul_mod_right, Bool.xor_self, show p - p - ((54 : Nat) : Int) - 1 = -55 from by omega]
  decide +kernel
theorem add_self (a : Int) (h0 : 0 ≤ a) (h1 : a < 18446744073709551616) (hn : nanB a = false) : opI .add a a = opI .mul a 4611686018427387904 := by
  have x : floatBits .add .f64 a.toNat a.toNat = ((Ieee.double.read a.toNat).sum (Ieee.double.read a.toNat)).map Ieee.double.write := rfl
  have y : floatBits .mul .f64 a.toNat (4611686018427387904 : Int).toNat = ((Ieee.double.read a.toNat).product (Ieee.double.read (4611686018427387904 : Int).toNat)).map Ieee.double.write := rfl
  unfold opI
  rw [x, y, read_two]
  rcases plain_read a h0 hn with ⟨s, m, p, e⟩ | ⟨s, e⟩
  · obtain ⟨m1, hp, -, -, -⟩ := read_number (by omega) e
    rw [e]
    simp only [Datum.sum]
    have e0 : (p - min p p).toNat = 0 := by omega
    rw [e0]
    have e1 : (signed s m 0 + signed s m 0).natAbs = 2 * m := by rw [signed_v]; cases s <;> simp <;> omega
    have e2 : (if signed s m 0 + signed s m 0 = 0 then s && s else decide (signed s m 0 + signed s m 0 < 0)) = s := by
      rw [signed_v]
      cases s
      · simp; omega
      · simp; omega
    rw [e1, e2]
    show ((Ieee.double.nearest s (2 * m) (min p p) : Nat) : Int) = ((Ieee.double.nearest (s ^^ false) (m * 4503599627370496) (p + -51) : Nat) : Int)
    rw [Bool.xor_false, nearest_same Ieee.double s (2 * m) (m * 4503599627370496) (min p p) (p + -51) (p + -51) (by omega) (by omega) ?_]
    rw [show (min p p - (p + -51)).toNat = 51 from by omega, show (p + -51 - (p + -51)).toNat = 0 from by omega]
    omega
  · rw [e]
    cases s <;> rfl
end Go.Proofs.Ytpbcplgpbafjpaa.W
