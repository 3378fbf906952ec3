/- Plain facts on doubles by their exact numbers: which pattern is some digits times a power of two, or none. No Go in sight. -/
import Derived.Test.YtdoojooepkdlhaaDoorH4
namespace Go.Proofs.YtdoojooepkdlhaaDoor.W

/-- how often a number can be halved, and what is left -/
def twos (n : Nat) : Nat := if n = 0 then 0 else if n % 2 = 0 then twos (n / 2) + 1 else 0
  termination_by n
  decreasing_by omega
def oddN (n : Nat) : Nat := if n = 0 then 0 else if n % 2 = 0 then oddN (n / 2) else n
  termination_by n
  decreasing_by omega
theorem odd_twos (n : Nat) (h : n ≠ 0) : oddN n % 2 = 1 ∧ n = oddN n * 2 ^ twos n := by
  induction n using Nat.strongRecOn with
  | _ n ih =>
    rw [oddN, twos]
    rw [if_neg h, if_neg h]
    by_cases g : n % 2 = 0
    · rw [if_pos g, if_pos g]
      obtain ⟨i1, i2⟩ := ih (n / 2) (by omega) (by omega)
      refine ⟨i1, ?_⟩
      rw [Nat.pow_succ, ← Nat.mul_assoc, ← i2]
      omega
    · rw [if_neg g, if_neg g]
      exact ⟨by omega, by simp⟩
/-- the pattern, without a sign, of N times 2 to the low, if there is one -/
def exactP (N : Nat) (low : Int) : Option Int :=
  if N = 0 then some 0
  else if 52 < (oddN N).log2 ∨ low + twos N < -1074 ∨ 1023 < low + twos N + (oddN N).log2 then none
  else if low + twos N + (oddN N).log2 < -1022 then some ((oddN N * 2 ^ (low + twos N + 1074).toNat : Nat) : Int)
  else some (((low + twos N + (oddN N).log2 + 1023).toNat * 4503599627370496 + (oddN N * 2 ^ (52 - (oddN N).log2) - 4503599627370496) : Nat) : Int)
theorem val_zero (a : Int) (low : Int) : ValOf a 0 low ↔ a = 0 := by
  constructor
  · rintro ⟨a0, a1, fa, V, ka, va⟩
    rw [Nat.zero_mul] at va
    have hV : V = 0 := by
      rcases Nat.mul_eq_zero.1 va with h | h
      · exact h
      · exact absurd h (Nat.ne_of_gt (Nat.two_pow_pos _))
    subst hV
    obtain ⟨f, g, k⟩ := parts_mk 0 0 (by omega) (Or.inr rfl) (by omega)
    refine key_inj a 0 a0 a1 (by omega) (by omega) fa (by decide) ?_
    rw [ka]
    have k' : keyI ((0 * 4503599627370496 + 0 : Nat) : Int) = 0 := by rw [k]; simp
    exact k'.symm
  · rintro rfl
    obtain ⟨f, g, k⟩ := parts_mk 0 0 (by omega) (Or.inr rfl) (by omega)
    exact ⟨by omega, by omega, by decide, 0, k.trans (by simp), by simp⟩
theorem exact_iff (N : Nat) (low : Int) (a : Int) : exactP N low = some a ↔ ValOf a N low := by
  unfold exactP
  by_cases h0 : N = 0
  · subst h0
    rw [if_pos rfl, val_zero]
    simp only [Option.some.injEq]
    exact eq_comm
  · rw [if_neg h0]
    obtain ⟨o1, o2⟩ := odd_twos N h0
    have sh : ValOf a N low ↔ ValOf a (oddN N) (low + twos N) := by
      have := val_shift (a := a) (N := oddN N) (low := low) (twos N)
      rw [← o2] at this
      exact this
    rw [sh]
    have on : oddN N ≠ 0 := by omega
    by_cases h1 : 52 < (oddN N).log2 ∨ low + twos N < -1074 ∨ 1023 < low + twos N + (oddN N).log2
    · rw [if_pos h1]
      exact ⟨(fun h => by cases h), fun h => absurd h (val_none _ _ o1 h1 a)⟩
    · rw [if_neg h1]
      obtain ⟨m1, m2⟩ := val_make (oddN N) (low + twos N) on (by omega) (by omega) (by omega)
      by_cases h2 : low + twos N + (oddN N).log2 < -1022
      · rw [if_pos h2]
        have v := m1 h2
        constructor
        · intro h
          injection h with h
          rw [← h]; exact v
        · intro h; rw [val_unique v h]
      · rw [if_neg h2]
        obtain ⟨c1, c2, c3⟩ := m2 (by omega)
        have v := c3 (by omega)
        constructor
        · intro h
          injection h with h
          rw [← h]; exact v
        · intro h; rw [val_unique v h]
theorem exact_none (N : Nat) (low : Int) : exactP N low = none ↔ ∀ a, ¬ ValOf a N low := by
  constructor
  · intro h a ha
    rw [(exact_iff N low a).2 ha] at h
    cases h
  · intro h
    cases e : exactP N low with
    | none => rfl
    | some a => exact absurd ((exact_iff N low a).1 e) (h a)
/-- digits shifted by a power, noughts behind: the same answer -/
theorem exact_shift (N : Nat) (low : Int) (k : Nat) : exactP (N * 2 ^ k) low = exactP N (low + k) := by
  cases e : exactP N (low + k) with
  | some a => rw [exact_iff]; exact (val_shift k).2 ((exact_iff _ _ _).1 e)
  | none =>
    rw [exact_none] at e ⊢
    exact fun a h => e a ((val_shift k).1 h)
/-- a double's own text is read as it -/
theorem exact_text (a : Nat) (h0 : a ≠ 0) (h1 : a < 9218868437227405312) :
    exactP (valH (hexd 1 :: fracL 13 (fracOf a))) (powOf a - 4 * (fracL 13 (fracOf a)).length) = some (a : Int) :=
  (exact_iff _ _ _).2 (text_val a h0 h1)
theorem exact_range (N : Nat) (low : Int) (a : Int) (h : exactP N low = some a) : 0 ≤ a ∧ a < 9218868437227405312 := by
  obtain ⟨a0, a1, fa, -⟩ := (exact_iff N low a).1 h
  simp only [finB, decide_eq_true_eq] at fa
  omega
end Go.Proofs.YtdoojooepkdlhaaDoor.W
