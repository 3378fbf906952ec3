/- Plain facts on doubles by their exact numbers, for texts of numbers: a number that is some digits times a power of two is at most one pattern, and which one. No Go in sight. -/
import Derived.Test.YtdoojooepkdlhaaDoorF4
namespace Go.Proofs.YtdoojooepkdlhaaDoor.W
open Ieee

/-- a pattern without a sign, by its parts -/
theorem parts (a : Int) (h0 : 0 ≤ a) (h1 : a < 9223372036854775808) (hf : finB a = true) :
    ∃ m P : Nat, a = ((P * 4503599627370496 + m : Nat) : Int) ∧ m < 9007199254740992 ∧ (4503599627370496 ≤ m ∨ P = 0) ∧ P ≤ 2045 ∧ keyI a = ((m * 2 ^ P : Nat) : Int) := by
  obtain ⟨s, m, p, e⟩ := fin_read a hf
  obtain ⟨q1, q2, q3, q4, q5⟩ := read_number (by omega) e
  have hs : s = false := by
    cases s
    · rfl
    · simp only [if_true] at q5; omega
  subst hs
  refine ⟨m, (p + 1074).toNat, ?_, q1, by omega, by omega, ?_⟩
  · simp only [Bool.false_eq_true, if_false] at q5; omega
  · unfold keyI
    rw [e]
    simp only [key, signed_v, Bool.false_eq_true, if_false]
/-- and back -/
theorem parts_mk (m P : Nat) (h1 : m < 9007199254740992) (h2 : 4503599627370496 ≤ m ∨ P = 0) (h3 : P ≤ 2045) :
    finB ((P * 4503599627370496 + m : Nat) : Int) = true ∧ ((P * 4503599627370496 + m : Nat) : Int) < 9223372036854775808 ∧ keyI ((P * 4503599627370496 + m : Nat) : Int) = ((m * 2 ^ P : Nat) : Int) := by
  have hb : P * 4503599627370496 + m < 9218868437227405312 := by omega
  have hf : finB ((P * 4503599627370496 + m : Nat) : Int) = true := by
    simp only [finB, decide_eq_true_eq]; omega
  refine ⟨hf, by omega, ?_⟩
  obtain ⟨m', P', e, e1, e2, e3, e4⟩ := parts _ (by omega) (by omega) hf
  have hh : P = P' ∧ m = m' := by
    have e' : P * 4503599627370496 + m = P' * 4503599627370496 + m' := by omega
    omega
  rw [e4, hh.1, hh.2]
/-- parts of one number are the same -/
theorem parts_inj {m P m' P' : Nat} (h1 : m < 9007199254740992) (h1' : m' < 9007199254740992) (h2 : 4503599627370496 ≤ m ∨ P = 0) (h2' : 4503599627370496 ≤ m' ∨ P' = 0) (h : m * 2 ^ P = m' * 2 ^ P') : m = m' ∧ P = P' := by
  have go : ∀ {m P m' P' : Nat}, m < 9007199254740992 → (4503599627370496 ≤ m' ∨ P' = 0) → m * 2 ^ P = m' * 2 ^ P' → ¬ P < P' := by
    intro m P m' P' k1 k2 k hlt
    have e : 2 ^ P' = 2 ^ (P' - P) * 2 ^ P := by rw [← Nat.pow_add]; congr 1; omega
    rw [e, ← Nat.mul_assoc] at k
    have k3 : m = m' * 2 ^ (P' - P) := Nat.eq_of_mul_eq_mul_right (Nat.two_pow_pos P) k
    have k4 : 2 ^ 1 ≤ 2 ^ (P' - P) := Nat.pow_le_pow_right (by omega) (by omega)
    have k5 : m' * 2 ≤ m' * 2 ^ (P' - P) := Nat.mul_le_mul_left _ (by omega)
    omega
  have a := go h1 h2' h
  have b := go h1' h2 h.symm
  have e : P = P' := by omega
  subst e
  exact ⟨Nat.eq_of_mul_eq_mul_right (Nat.two_pow_pos P) h, rfl⟩
/-- finite patterns of one sign with one number are one -/
theorem key_inj (a b : Int) (a0 : 0 ≤ a) (a1 : a < 9223372036854775808) (b0 : 0 ≤ b) (b1 : b < 9223372036854775808) (fa : finB a = true) (fb : finB b = true) (h : keyI a = keyI b) : a = b := by
  obtain ⟨m, P, e, h1, h2, h3, h4⟩ := parts a a0 a1 fa
  obtain ⟨m', P', e', h1', h2', h3', h4'⟩ := parts b b0 b1 fb
  rw [h4, h4'] at h
  have h' : m * 2 ^ P = m' * 2 ^ P' := by exact_mod_cast h
  obtain ⟨rfl, rfl⟩ := parts_inj h1 h1' h2 h2' h'
  omega

/-- the pattern a, without a sign, is N times 2 to the low -/
def ValOf (a : Int) (N : Nat) (low : Int) : Prop :=
  0 ≤ a ∧ a < 9223372036854775808 ∧ finB a = true ∧ ∃ V : Nat, keyI a = V ∧ V * 2 ^ (-(low + 1074)).toNat = N * 2 ^ (low + 1074).toNat
theorem val_unique {a b : Int} {N : Nat} {low : Int} (ha : ValOf a N low) (hb : ValOf b N low) : a = b := by
  obtain ⟨a0, a1, fa, V, ka, va⟩ := ha
  obtain ⟨b0, b1, fb, U, kb, vb⟩ := hb
  have : V = U := Nat.eq_of_mul_eq_mul_right (Nat.two_pow_pos _) (va.trans vb.symm)
  exact key_inj a b a0 a1 b0 b1 fa fb (by rw [ka, kb, this])
/-- the same number, its digits shifted -/
theorem val_shift {a : Int} {N : Nat} {low : Int} (k : Nat) : ValOf a (N * 2 ^ k) low ↔ ValOf a N (low + k) := by
  unfold ValOf
  constructor
  · rintro ⟨a0, a1, fa, V, ka, va⟩
    refine ⟨a0, a1, fa, V, ka, ?_⟩
    have e1 : (-(low + 1074)).toNat + (low + k + 1074).toNat = (-(low + k + 1074)).toNat + (k + (low + 1074).toNat) := by omega
    apply Nat.eq_of_mul_eq_mul_right (Nat.two_pow_pos ((-(low + 1074)).toNat))
    have := congrArg (· * 2 ^ (-(low + k + 1074)).toNat) va
    calc V * 2 ^ (-(low + ↑k + 1074)).toNat * 2 ^ (-(low + 1074)).toNat = V * 2 ^ (-(low + 1074)).toNat * 2 ^ (-(low + k + 1074)).toNat := by rw [Nat.mul_assoc, Nat.mul_assoc, Nat.mul_comm (2 ^ _)]
      _ = N * 2 ^ k * 2 ^ (low + 1074).toNat * 2 ^ (-(low + k + 1074)).toNat := this
      _ = N * 2 ^ (low + ↑k + 1074).toNat * 2 ^ (-(low + 1074)).toNat := by
        rw [Nat.mul_assoc, Nat.mul_assoc, Nat.mul_assoc, ← Nat.pow_add, ← Nat.pow_add, ← Nat.pow_add]
        congr 2; omega
  · rintro ⟨a0, a1, fa, V, ka, va⟩
    refine ⟨a0, a1, fa, V, ka, ?_⟩
    apply Nat.eq_of_mul_eq_mul_right (Nat.two_pow_pos ((-(low + k + 1074)).toNat))
    have := congrArg (· * 2 ^ (-(low + 1074)).toNat) va
    calc V * 2 ^ (-(low + 1074)).toNat * 2 ^ (-(low + ↑k + 1074)).toNat = V * 2 ^ (-(low + k + 1074)).toNat * 2 ^ (-(low + 1074)).toNat := by rw [Nat.mul_assoc, Nat.mul_assoc, Nat.mul_comm (2 ^ _)]
      _ = N * 2 ^ (low + k + 1074).toNat * 2 ^ (-(low + 1074)).toNat := this
      _ = N * 2 ^ k * 2 ^ (low + 1074).toNat * 2 ^ (-(low + ↑k + 1074)).toNat := by
        rw [Nat.mul_assoc, Nat.mul_assoc, Nat.mul_assoc, ← Nat.pow_add, ← Nat.pow_add, ← Nat.pow_add]
        congr 2; omega
/-- where the highest digit of n times 2 to the low stands -/
theorem high_le {n : Nat} (hn : n ≠ 0) : 2 ^ n.log2 ≤ n ∧ n < 2 ^ (n.log2 + 1) := ⟨Nat.log2_self_le hn, Nat.lt_log2_self⟩
/-- a number of few digits, not too small and not too great, is a double: its pattern -/
theorem val_make (n : Nat) (low : Int) (hn : n ≠ 0) (h53 : n.log2 ≤ 52) (hlow : -1074 ≤ low) (hhigh : low + n.log2 ≤ 1023) :
    (low + n.log2 < -1022 → ValOf ((n * 2 ^ (low + 1074).toNat : Nat) : Int) n low) ∧
    (-1022 ≤ low + n.log2 → 4503599627370496 ≤ n * 2 ^ (52 - n.log2) ∧ n * 2 ^ (52 - n.log2) < 9007199254740992 ∧
      ((-1074 ≤ low + n.log2 - 52) → ValOf (((low + n.log2 + 1023).toNat * 4503599627370496 + (n * 2 ^ (52 - n.log2) - 4503599627370496) : Nat) : Int) n low)) := by
  obtain ⟨l1, l2⟩ := high_le hn
  have z : (-(low + 1074)).toNat = 0 := by omega
  constructor
  · intro h
    have b : n * 2 ^ (low + 1074).toNat < 4503599627370496 := by
      have b1 : n * 2 ^ (low + 1074).toNat < 2 ^ (n.log2 + 1) * 2 ^ (low + 1074).toNat := Nat.mul_lt_mul_of_pos_right l2 (Nat.two_pow_pos _)
      rw [← Nat.pow_add] at b1
      have b2 : 2 ^ (n.log2 + 1 + (low + 1074).toNat) ≤ 2 ^ 52 := Nat.pow_le_pow_right (by omega) (by omega)
      omega
    obtain ⟨f, g, k⟩ := parts_mk (n * 2 ^ (low + 1074).toNat) 0 (by omega) (Or.inr rfl) (by omega)
    rw [Nat.zero_mul, Nat.zero_add] at f g k
    exact ⟨by omega, g, f, _, k, by rw [z, Nat.pow_zero, Nat.mul_one, Nat.mul_one]⟩
  · intro h
    have b1 : 2 ^ n.log2 * 2 ^ (52 - n.log2) ≤ n * 2 ^ (52 - n.log2) := Nat.mul_le_mul_right _ l1
    have b2 : n * 2 ^ (52 - n.log2) < 2 ^ (n.log2 + 1) * 2 ^ (52 - n.log2) := Nat.mul_lt_mul_of_pos_right l2 (Nat.two_pow_pos _)
    rw [← Nat.pow_add, show n.log2 + (52 - n.log2) = 52 by omega] at b1
    rw [← Nat.pow_add, show n.log2 + 1 + (52 - n.log2) = 53 by omega] at b2
    have p52 : (2 : Nat) ^ 52 = 4503599627370496 := by decide
    have p53 : (2 : Nat) ^ 53 = 9007199254740992 := by decide
    rw [p52] at b1
    rw [p53] at b2
    have c1 := b1
    have c2 := b2
    refine ⟨c1, c2, fun hl => ?_⟩
    obtain ⟨f, g, k⟩ := parts_mk (n * 2 ^ (52 - n.log2)) (low + n.log2 + 1022).toNat c2 (Or.inl c1) (by omega)
    have e : (low + n.log2 + 1023).toNat * 4503599627370496 + (n * 2 ^ (52 - n.log2) - 4503599627370496) = (low + n.log2 + 1022).toNat * 4503599627370496 + n * 2 ^ (52 - n.log2) := by omega
    rw [e]
    refine ⟨by omega, g, f, _, k, ?_⟩
    have e3 : 52 - n.log2 + (low + n.log2 + 1022).toNat = (low + 1074).toNat := by omega
    rw [z, Nat.pow_zero, Nat.mul_one, Nat.mul_assoc, ← Nat.pow_add, e3]
/-- an odd number of many digits, too small or too great, is no double -/
theorem val_none (n : Nat) (low : Int) (hn : n % 2 = 1) (h : 52 < n.log2 ∨ low < -1074 ∨ 1023 < low + n.log2) (a : Int) : ¬ ValOf a n low := by
  rintro ⟨a0, a1, fa, V, ka, va⟩
  obtain ⟨m, P, e, h1, h2, h3, h4⟩ := parts a a0 a1 fa
  have hV : V = m * 2 ^ P := by rw [ka] at h4; exact_mod_cast h4
  have hn0 : n ≠ 0 := by omega
  obtain ⟨l1, l2⟩ := high_le hn0
  subst hV
  by_cases hl : low < -1074
  · have z : (low + 1074).toNat = 0 := by omega
    rw [z, Nat.pow_zero, Nat.mul_one] at va
    have : (2 : Nat) ^ (-(low + 1074)).toNat = 2 ^ ((-(low + 1074)).toNat - 1) * 2 := by rw [← Nat.pow_succ]; congr 1; omega
    rw [this, ← Nat.mul_assoc] at va
    omega
  · have z : (-(low + 1074)).toNat = 0 := by omega
    rw [z, Nat.pow_zero, Nat.mul_one] at va
    rcases h with h | h | h
    · -- an odd number times a power of two: the other one's factor divides
      have hP : P ≤ (low + 1074).toNat := by
        false_or_by_contra
        rename_i g
        have e2 : (2 : Nat) ^ P = 2 ^ (P - (low + 1074).toNat - 1) * 2 * 2 ^ (low + 1074).toNat := by rw [← Nat.pow_succ, ← Nat.pow_add]; congr 1; omega
        rw [e2, ← Nat.mul_assoc] at va
        have := Nat.eq_of_mul_eq_mul_right (Nat.two_pow_pos _) va
        rw [← Nat.mul_assoc] at this
        omega
      have e2 : (2 : Nat) ^ (low + 1074).toNat = 2 ^ ((low + 1074).toNat - P) * 2 ^ P := by rw [← Nat.pow_add]; congr 1; omega
      rw [e2, ← Nat.mul_assoc] at va
      have e3 := Nat.eq_of_mul_eq_mul_right (Nat.two_pow_pos _) va
      have e4 : n * 1 ≤ n * 2 ^ ((low + 1074).toNat - P) := Nat.mul_le_mul_left _ (Nat.two_pow_pos _)
      have e5 : 2 ^ 53 ≤ 2 ^ n.log2 := Nat.pow_le_pow_right (by omega) (by omega)
      have e6 : (2 : Nat) ^ 53 = 9007199254740992 := by decide
      omega
    · omega
    · have p53 : (2 : Nat) ^ 53 = 9007199254740992 := by decide
      have b0 : m < 2 ^ 53 := by omega
      have b1 : m * 2 ^ P < 2 ^ 53 * 2 ^ P := Nat.mul_lt_mul_of_pos_right b0 (Nat.two_pow_pos _)
      have b2 : 2 ^ n.log2 * 2 ^ (low + 1074).toNat ≤ n * 2 ^ (low + 1074).toNat := Nat.mul_le_mul_right _ l1
      rw [← Nat.pow_add] at b1 b2
      have b3 : 2 ^ (53 + P) ≤ 2 ^ (n.log2 + (low + 1074).toNat) := Nat.pow_le_pow_right (by omega) (by omega)
      omega
end Go.Proofs.YtdoojooepkdlhaaDoor.W
