/- Plain facts on what package soft answers, by the exact numbers: sums, products and quotients of whole numbers; by one, by itself. -/
import Derived.Test.YtpbcplgpbafjpabF4
namespace Go.Proofs.Ytpbcplgpbafjpab.W
open Ieee

theorem one1_sq {k : Nat} (h : k = 2148) : 2 ^ k = one1 * one1 := by
  have e : k - 1074 + (k - 1074) = k := by omega
  rw [← pow_one1 (k := k - 1074) (by omega), ← Nat.pow_add, e]
theorem one1_int : (0 : Int) < one1 := by have := one1_pos; omega
/-- a number that is whole, cut to its whole part -/
theorem trunc_whole (x k : Int) (r1 : 0 ≤ x) (r2 : x < 18446744073709551616) (hf : finB x = true) (hk : keyI x = k * one1) (h1 : -9223372036854775808 ≤ k) (h2 : k < 9223372036854775808) :
    floatToIntVal .f64 x.toNat .i64 = some k ∧ fitsB x = true := by
  have p := one1_int
  have b1 : -9223372036854775808 * (one1 : Int) ≤ keyI x := by rw [hk]; exact Int.mul_le_mul_of_nonneg_right h1 (by omega)
  have b2 : keyI x < 9223372036854775808 * one1 := by rw [hk]; exact Int.mul_lt_mul_of_pos_right (by omega) p
  have hv := trunc_val x r2 hf b1 b2
  have ht : truncI x = k := by
    obtain ⟨t1, t2⟩ := trunc_key x r2 hf
    rw [hk] at t1 t2
    by_cases g : 0 ≤ k
    · obtain ⟨u1, u2⟩ := t1 (Int.mul_nonneg g (by omega))
      exact quo_unique _ _ _ u1 u2 (Int.le_refl _) (by omega)
    · obtain ⟨u1, u2⟩ := t2 (Int.mul_nonpos_of_nonpos_of_nonneg (by omega) (by omega))
      exact (quo_unique k _ _ u1 (by omega) (Int.le_refl _) (by omega)).symm
  rw [ht] at hv
  refine ⟨hv, ?_⟩
  rw [fits_key x r1 r2 (fin_nan x hf)]
  simp only [decide_eq_true_eq]
  exact ⟨b1, b2⟩

theorem key_opposite (d : Datum) : key d.opposite = -key d := by
  cases d with
  | number s m p => simp only [Datum.opposite, key, signed_v]; cases s <;> simp
  | infinity s => simp only [Datum.opposite, key]; cases s <;> simp
  | nan s t => rfl
theorem keyI_neg (b : Int) (h0 : 0 ≤ b) (h1 : b < 18446744073709551616) (hn : nanB b = false) : keyI (negI b) = -keyI b := by
  unfold keyI; rw [read_neg b h0 h1 hn, key_opposite]
theorem finB_neg (b : Int) (hf : finB b = true) : finB (negI b) = true := by
  rw [negI_plain b (fin_nan b hf)]
  simp only [finB, decide_eq_true_eq] at *
  split <;> omega

/-- what nearest writes of a whole number, by its exact number -/
theorem near_key (s : Bool) (m : Nat) (p : Int) (i : Int) (h1 : -2148 ≤ p) (hi : i.natAbs ≤ 9007199254740992) (hv : m * 2 ^ (p + 2148).toNat = i.natAbs * (one1 * one1)) (hs : i ≠ 0 → s = decide (i < 0)) :
    finB (Ieee.double.nearest s m p : Nat) = true ∧ keyI (Ieee.double.nearest s m p : Nat) = i * one1 := by
  have e1 : Ieee.double.nearest s m p = Ieee.double.nearest s i.natAbs 0 := by
    refine nearest_same Ieee.double s m i.natAbs p 0 (-2148) h1 (by omega) ?_
    rw [show p - -2148 = p + 2148 from by omega, hv, one1_sq (by decide)]
  obtain ⟨m', p', e, q1, q2, q3⟩ := nearest_key s i.natAbs hi
  rw [e1]
  have e' : Ieee.double.read ((Ieee.double.nearest s i.natAbs 0 : Nat) : Int).toNat = .number s m' p' := e
  refine ⟨fin_of_read _ (by omega) e', ?_⟩
  unfold keyI
  rw [e', key, signed_eq, q3, Int.natCast_mul, ← Int.mul_assoc, sgn_mul i s hs]
theorem sign_key {s : Bool} {V : Nat} {i : Int} (h : (if s then -(V : Int) else (V : Int)) = i * one1) (hi : i ≠ 0) : s = decide (i < 0) := by
  have p := one1_int
  by_cases g : i < 0
  · have : i * (one1 : Int) < 0 := Int.mul_neg_of_neg_of_pos g p
    cases s
    · simp at h; omega
    · simp [g]
  · have : 0 < i * (one1 : Int) := Int.mul_pos (by omega) p
    cases s
    · simp [g]
    · simp at h; omega
theorem abs_key {s : Bool} {V : Nat} {i : Int} (h : (if s then -(V : Int) else (V : Int)) = i * one1) : V = i.natAbs * one1 := by
  have e : (i * (one1 : Int)).natAbs = i.natAbs * one1 := by rw [Int.natAbs_mul, Int.natAbs_natCast]
  rw [← e, ← h]
  cases s <;> simp

theorem add_exact (a b i : Int) (a1 : a < 18446744073709551616) (b1 : b < 18446744073709551616) (fa : finB a = true) (fb : finB b = true)
    (h : keyI a + keyI b = i * one1) (hi : i.natAbs ≤ 9007199254740992) : finB (opI .add a b) = true ∧ keyI (opI .add a b) = i * one1 := by
  obtain ⟨s, m, p, ea⟩ := fin_read a fa
  obtain ⟨t, n, q, eb⟩ := fin_read b fb
  obtain ⟨-, hp, -, -, -⟩ := read_number (by omega) ea
  obtain ⟨-, hq, -, -, -⟩ := read_number (by omega) eb
  have P := one1_int
  unfold keyI at h
  rw [ea, eb] at h
  simp only [key] at h
  have e1 : (p + 1074).toNat = (p - min p q).toNat + (min p q + 1074).toNat := by omega
  have e2 : (q + 1074).toNat = (q - min p q).toNat + (min p q + 1074).toNat := by omega
  rw [e1, e2, signed_add, signed_add, ← Int.add_mul] at h
  have e3 : opI .add a b = (Ieee.double.nearest (if signed s m (p - min p q).toNat + signed t n (q - min p q).toNat = 0 then s && t else decide (signed s m (p - min p q).toNat + signed t n (q - min p q).toNat < 0)) (signed s m (p - min p q).toNat + signed t n (q - min p q).toNat).natAbs (min p q) : Nat) := by
    unfold opI
    have : floatBits .add .f64 a.toNat b.toNat = ((Ieee.double.read a.toNat).sum (Ieee.double.read b.toNat)).map Ieee.double.write := rfl
    rw [this, ea, eb]
    rfl
  rw [e3]
  generalize signed s m (p - min p q).toNat + signed t n (q - min p q).toNat = T at *
  have hB : (0 : Int) < ((2 ^ (min p q + 1074).toNat : Nat) : Int) := by have := Nat.two_pow_pos (min p q + 1074).toNat; omega
  refine near_key _ _ _ i (by omega) hi ?_ ?_
  · have e4 : T.natAbs * 2 ^ (min p q + 1074).toNat = i.natAbs * one1 := by
      have := congrArg Int.natAbs h
      rw [Int.natAbs_mul, Int.natAbs_mul, Int.natAbs_natCast, Int.natAbs_natCast] at this
      exact this
    have e5 : 2 ^ (min p q + 2148).toNat = 2 ^ (min p q + 1074).toNat * one1 := by
      rw [← pow_one1 (k := (min p q + 2148).toNat - (min p q + 1074).toNat) (by omega), ← Nat.pow_add]; congr 1; omega
    rw [e5, ← Nat.mul_assoc, e4, Nat.mul_assoc]
  · intro hi0
    have hT : T ≠ 0 := by
      intro hT
      rw [hT, Int.zero_mul] at h
      rcases Int.mul_eq_zero.1 h.symm with g | g <;> omega
    rw [if_neg hT]
    congr 1
    apply propext
    constructor
    · intro g
      have := Int.mul_neg_of_neg_of_pos g hB
      rw [h] at this
      exact Int.not_le.1 (fun g' => by have := Int.mul_nonneg g' (Int.le_of_lt P); omega)
    · intro g
      have := Int.mul_neg_of_neg_of_pos g P
      rw [← h] at this
      exact Int.not_le.1 (fun g' => by have := Int.mul_nonneg g' (Int.le_of_lt hB); omega)

theorem mul_exact (a b i j : Int) (a1 : a < 18446744073709551616) (b1 : b < 18446744073709551616) (fa : finB a = true) (fb : finB b = true)
    (ha : keyI a = i * one1) (hb : keyI b = j * one1) (hi : (i * j).natAbs ≤ 9007199254740992) : finB (opI .mul a b) = true ∧ keyI (opI .mul a b) = i * j * one1 := by
  obtain ⟨s, m, p, ea⟩ := fin_read a fa
  obtain ⟨t, n, q, eb⟩ := fin_read b fb
  obtain ⟨-, hp, -, -, -⟩ := read_number (by omega) ea
  obtain ⟨-, hq, -, -, -⟩ := read_number (by omega) eb
  unfold keyI at ha hb
  rw [ea] at ha
  rw [eb] at hb
  simp only [key, signed_v] at ha hb
  have e3 : opI .mul a b = (Ieee.double.nearest (s ^^ t) (m * n) (p + q) : Nat) := by
    unfold opI
    have : floatBits .mul .f64 a.toNat b.toNat = ((Ieee.double.read a.toNat).product (Ieee.double.read b.toNat)).map Ieee.double.write := rfl
    rw [this, ea, eb]
    rfl
  rw [e3]
  refine near_key _ _ _ (i * j) (by omega) hi ?_ ?_
  · have e5 : 2 ^ (p + q + 2148).toNat = 2 ^ (p + 1074).toNat * 2 ^ (q + 1074).toNat := by rw [← Nat.pow_add]; congr 1; omega
    rw [e5, Int.natAbs_mul]
    have v1 := abs_key ha
    have v2 := abs_key hb
    rw [Nat.mul_mul_mul_comm, v1, v2, Nat.mul_mul_mul_comm]
  · intro hij
    have i0 : i ≠ 0 := fun h => hij (by rw [h, Int.zero_mul])
    have j0 : j ≠ 0 := fun h => hij (by rw [h, Int.mul_zero])
    rw [sign_key ha i0, sign_key hb j0]
    by_cases g1 : i < 0 <;> by_cases g2 : j < 0
    · have : 0 < i * j := Int.mul_pos_of_neg_of_neg g1 g2
      have h3 : ¬ i * j < 0 := by omega
      simp [g1, g2, h3]
    · have : i * j < 0 := Int.mul_neg_of_neg_of_pos g1 (by omega)
      simp [g1, g2, this]
    · have : i * j < 0 := Int.mul_neg_of_pos_of_neg (by omega) g2
      simp [g1, g2, this]
    · have : 0 < i * j := Int.mul_pos (by omega) (by omega)
      have h3 : ¬ i * j < 0 := by omega
      simp [g1, g2, h3]
end Go.Proofs.Ytpbcplgpbafjpab.W
