/- Plain facts on whole numbers of 64 bits: what fits, wrapped sums and products, quotients rounded down. No Go in sight but a result's parts. -/
import Derived.Test.YtpbcplgpbafjpabSoft
namespace Go.Proofs.Ytpbcplgpbafjpab.W

/-- a result's parts: is it whole, the whole number, the pattern, the error -/
structure Res where
  w : Bool
  i : Int
  u : Int
  e : Int
def okW (n : Int) : Res := ⟨true, n, 0, 0⟩
def okD (u : Int) : Res := ⟨false, 0, u, 0⟩
def bad (e : Int) : Res := ⟨false, 0, 0, e⟩
/-- a whole number that fits, or the error -/
def fitR (n : Int) : Res := if -9223372036854775808 ≤ n ∧ n < 9223372036854775808 then okW n else bad 10
theorem fitR_in {n : Int} (h : -9223372036854775808 ≤ n ∧ n < 9223372036854775808) : fitR n = okW n := if_pos h
theorem fitR_out {n : Int} (h : ¬ (-9223372036854775808 ≤ n ∧ n < 9223372036854775808)) : fitR n = bad 10 := if_neg h

/-- the greatest whole number that is not above the quotient -/
def flI (a b : Int) : Int := if 0 < b then a / b else (-a) / (-b)
/-- what it leaves -/
def mdI (a b : Int) : Int := a - b * flI a b
theorem flI_spec (a b : Int) (hb : b ≠ 0) : (0 < b → b * flI a b ≤ a ∧ a < b * flI a b + b) ∧ (b < 0 → a ≤ b * flI a b ∧ b * flI a b + b < a) := by
  unfold flI
  constructor
  · intro h
    rw [if_pos h]
    have h1 := Int.mul_ediv_add_emod a b
    have h2 := Int.emod_nonneg a hb
    have h3 := Int.emod_lt_of_pos a h
    omega
  · intro h
    rw [if_neg (by omega)]
    have h1 := Int.mul_ediv_add_emod (-a) (-b)
    have h2 := Int.emod_nonneg (-a) (b := -b) (by omega)
    have h3 := Int.emod_lt_of_pos (-a) (b := -b) (by omega)
    rw [Int.neg_mul] at h1
    omega
theorem mul_gap {b x y : Int} (hb : 0 < b) (h : b * x < b * y + b) : x ≤ y := by
  have : b * x < b * (y + 1) := by rw [Int.mul_add]; omega
  have := Int.lt_of_mul_lt_mul_left this (by omega)
  omega
theorem flI_unique (a b q : Int) (hb : b ≠ 0) (h1 : 0 < b → b * q ≤ a ∧ a < b * q + b) (h2 : b < 0 → a ≤ b * q ∧ b * q + b < a) : q = flI a b := by
  obtain ⟨s1, s2⟩ := flI_spec a b hb
  by_cases h : 0 < b
  · have := h1 h
    have := s1 h
    have g1 := mul_gap h (x := q) (y := flI a b) (by omega)
    have g2 := mul_gap h (x := flI a b) (y := q) (by omega)
    omega
  · have hn : b < 0 := by omega
    have := h2 hn
    have := s2 hn
    have g1 := mul_gap (b := -b) (by omega) (x := q) (y := flI a b) (by rw [Int.neg_mul, Int.neg_mul]; omega)
    have g2 := mul_gap (b := -b) (by omega) (x := flI a b) (y := q) (by rw [Int.neg_mul, Int.neg_mul]; omega)
    omega
theorem mdI_spec (a b : Int) (hb : b ≠ 0) : (0 < b → 0 ≤ mdI a b ∧ mdI a b < b) ∧ (b < 0 → b < mdI a b ∧ mdI a b ≤ 0) := by
  obtain ⟨s1, s2⟩ := flI_spec a b hb
  unfold mdI
  constructor
  · intro h; have := s1 h; omega
  · intro h; have := s2 h; omega
/-- Go's quotient and rest -/
theorem tdiv_spec (a b : Int) (hb : b ≠ 0) : b * a.tdiv b + a.tmod b = a ∧ (0 < b → -b < a.tmod b ∧ a.tmod b < b) ∧ (b < 0 → b < a.tmod b ∧ a.tmod b < -b) ∧ (0 ≤ a → 0 ≤ a.tmod b) ∧ (a ≤ 0 → a.tmod b ≤ 0) := by
  have h1 := Int.mul_tdiv_add_tmod a b
  have h2 : (a.tmod b).natAbs < b.natAbs := by rw [Int.natAbs_tmod]; exact Nat.mod_lt _ (by omega)
  refine ⟨h1, fun _ => by omega, fun _ => by omega, fun h => Int.tmod_nonneg b h, fun h => ?_⟩
  have : 0 ≤ (-a).tmod b := Int.tmod_nonneg b (by omega)
  rw [Int.neg_tmod] at this
  omega
/-- Go's quotient, mended where the signs differ and a rest is left -/
theorem fl_tdiv (a b : Int) (hb : b ≠ 0) :
    (a.tmod b ≠ 0 → ((a < 0) ↔ ¬ b < 0) → a.tdiv b - 1 = flI a b ∧ a.tmod b + b = mdI a b) ∧ ((a.tmod b = 0 ∨ ((a < 0) ↔ (b < 0))) → a.tdiv b = flI a b ∧ a.tmod b = mdI a b) := by
  obtain ⟨h1, h2, h3, h4, h5⟩ := tdiv_spec a b hb
  constructor
  · intro g1 g2
    have e : a.tdiv b - 1 = flI a b := by
      apply flI_unique a b _ hb <;> intro hs <;> rw [Int.mul_sub]
      · have := h2 hs; have := h5 (by omega); omega
      · have := h3 hs; have := h4 (by omega); omega
    refine ⟨e, ?_⟩
    unfold mdI
    rw [← e, Int.mul_sub]; omega
  · intro g
    have e : a.tdiv b = flI a b := by
      apply flI_unique a b _ hb <;> intro hs
      · have := h2 hs
        have : 0 ≤ a.tmod b := by rcases g with g | g; · omega
                                  · exact h4 (by omega)
        omega
      · have := h3 hs
        have : a.tmod b ≤ 0 := by rcases g with g | g; · omega
                                  · exact h5 (by omega)
        omega
    refine ⟨e, ?_⟩
    unfold mdI
    rw [← e]; omega

/-! ### sizes and signs -/
def sizeI (i : Int) : Int := if i < 0 then -i else i
/-- quotient and rest of the sizes, mended -/
def fq (a b : Int) : Int := if ((decide (a < 0) != decide (b < 0)) && (sizeI a % sizeI b != 0)) = true then sizeI a / sizeI b + 1 else sizeI a / sizeI b
def fr (a b : Int) : Int := if ((decide (a < 0) != decide (b < 0)) && (sizeI a % sizeI b != 0)) = true then sizeI b - sizeI a % sizeI b else sizeI a % sizeI b
theorem sizes (a b : Int) (hb : b ≠ 0) : flI a b = (if (decide (a < 0) != decide (b < 0)) = true then -(fq a b) else fq a b) ∧ mdI a b = (if b < 0 then -(fr a b) else fr a b) := by
  have hs : 0 < sizeI b := by unfold sizeI; split <;> omega
  have h1 := Int.mul_ediv_add_emod (sizeI a) (sizeI b)
  have h2 := Int.emod_nonneg (sizeI a) (b := sizeI b) (by omega)
  have h3 := Int.emod_lt_of_pos (sizeI a) hs
  have key : ∀ q r : Int, (if (decide (a < 0) != decide (b < 0)) = true then -(fq a b) else fq a b) = q → (if b < 0 then -(fr a b) else fr a b) = r → b * q + r = a → (0 < b → 0 ≤ r ∧ r < b) → (b < 0 → b < r ∧ r ≤ 0) → flI a b = (if (decide (a < 0) != decide (b < 0)) = true then -(fq a b) else fq a b) ∧ mdI a b = (if b < 0 then -(fr a b) else fr a b) := by
    intro q r e1 e2 k1 k2 k3
    have e : q = flI a b := flI_unique a b q hb (fun h => by have := k2 h; omega) (fun h => by have := k3 h; omega)
    rw [e1, e2]
    refine ⟨e.symm, ?_⟩
    unfold mdI
    rw [← e]; omega
  by_cases g1 : a < 0 <;> by_cases g2 : b < 0
  · have ea : sizeI a = -a := if_pos g1
    have eb : sizeI b = -b := if_pos g2
    rw [ea, eb] at h1 h2 h3
    refine key (-a / -b) (-(-a % -b)) (by simp [g1, g2, fq, ea, eb]) (by simp [g1, g2, fr, ea, eb]) ?_ (by omega) (by omega)
    rw [Int.neg_mul] at h1
    omega
  · have ea : sizeI a = -a := if_pos g1
    have eb : sizeI b = b := if_neg g2
    rw [ea, eb] at h1 h2 h3
    by_cases g3 : -a % b = 0
    · refine key (-(-a / b)) 0 (by simp only [g1, g2, fq, ea, eb, g3]; rfl) (by simp only [g1, g2, fr, ea, eb, g3]; rfl) ?_ (by omega) (by omega)
      rw [Int.mul_neg]; omega
    · have g3' : (-a % b != 0) = true := by simpa using g3
      refine key (-(-a / b + 1)) (b - -a % b) (by simp only [g1, g2, fq, ea, eb, g3']; rfl) (by simp only [g1, g2, fr, ea, eb, g3']; rfl) ?_ (by omega) (by omega)
      rw [Int.mul_neg, Int.mul_add]; omega
  · have ea : sizeI a = a := if_neg g1
    have eb : sizeI b = -b := if_pos g2
    rw [ea, eb] at h1 h2 h3
    rw [Int.neg_mul] at h1
    by_cases g3 : a % -b = 0
    · refine key (-(a / -b)) 0 (by simp only [g1, g2, fq, ea, eb, g3]; rfl) (by simp only [g1, g2, fr, ea, eb, g3]; rfl) ?_ (by omega) (by omega)
      rw [Int.mul_neg]; omega
    · have g3' : (a % -b != 0) = true := by simpa using g3
      refine key (-(a / -b + 1)) (-(-b - a % -b)) (by simp only [g1, g2, fq, ea, eb, g3']; rfl) (by simp only [g1, g2, fr, ea, eb, g3']; rfl) ?_ (by omega) (by omega)
      rw [Int.mul_neg, Int.mul_add]; omega
  · have ea : sizeI a = a := if_neg g1
    have eb : sizeI b = b := if_neg g2
    rw [ea, eb] at h1 h2 h3
    exact key (a / b) (a % b) (by simp [g1, g2, fq, ea, eb]) (by simp [g1, g2, fr, ea, eb]) (by omega) (by omega) (by omega)
theorem sizeI_range {a : Int} (h0 : -9223372036854775808 ≤ a) (h1 : a < 9223372036854775808) : 0 ≤ sizeI a ∧ sizeI a ≤ 9223372036854775808 := by
  unfold sizeI; split <;> omega
theorem sizeI_pos {b : Int} (hb : b ≠ 0) : 0 < sizeI b := by unfold sizeI; split <;> omega
theorem fq_range {a b : Int} (h0 : -9223372036854775808 ≤ a) (h1 : a < 9223372036854775808) (hb : b ≠ 0) : 0 ≤ fq a b ∧ fq a b < 18446744073709551616 := by
  obtain ⟨s1, s2⟩ := sizeI_range h0 h1
  have hs := sizeI_pos hb
  have q0 : 0 ≤ sizeI a / sizeI b := Int.ediv_nonneg s1 (by omega)
  have q1 : sizeI a / sizeI b ≤ sizeI a := Int.ediv_le_self _ s1
  unfold fq; split <;> omega
theorem fr_range {a b : Int} (hb : b ≠ 0) : 0 ≤ fr a b ∧ fr a b < sizeI b := by
  have hs := sizeI_pos hb
  have r0 := Int.emod_nonneg (sizeI a) (b := sizeI b) (by omega)
  have r1 := Int.emod_lt_of_pos (sizeI a) hs
  unfold fr
  split
  · rename_i h
    simp at h
    omega
  · omega
/-- a product of sizes is the product's size -/
theorem size_mul (a b : Int) : sizeI a * sizeI b = (if (decide (a < 0) != decide (b < 0)) = true then -(a * b) else a * b) := by
  unfold sizeI
  by_cases h1 : a < 0 <;> by_cases h2 : b < 0 <;> simp [h1, h2, Int.neg_mul, Int.mul_neg]
theorem sign_mul (a b : Int) (ha : a ≠ 0) (hb : b ≠ 0) : (a * b < 0 ↔ (decide (a < 0) != decide (b < 0)) = true) ∧ a * b ≠ 0 := by
  have hne : a * b ≠ 0 := Int.mul_ne_zero ha hb
  refine ⟨?_, hne⟩
  have h := size_mul a b
  have h0 : 0 < sizeI a * sizeI b := Int.mul_pos (sizeI_pos ha) (sizeI_pos hb)
  rw [h] at h0
  split at h0
  · rename_i g; exact ⟨fun _ => g, fun _ => by omega⟩
  · rename_i g; exact ⟨fun h => by omega, fun h => absurd h g⟩

/-! ### wrapped -/
theorem wrap_cases (n : Int) : ∃ k : Int, IntKind.i64.wrap n = n + k * 18446744073709551616 ∧ -9223372036854775808 ≤ IntKind.i64.wrap n ∧ IntKind.i64.wrap n < 9223372036854775808 := by
  rw [IntKind.wrap_i64]
  refine ⟨-((n + 9223372036854775808) / 18446744073709551616), by omega, by omega, by omega⟩
theorem wrap_in {n : Int} (h : -9223372036854775808 ≤ n ∧ n < 9223372036854775808) : IntKind.i64.wrap n = n := by
  obtain ⟨k, h1, h2, h3⟩ := wrap_cases n
  omega
/-- a wrapped product that divides back to the factor, with the right sign, is the product -/
theorem mul_back (a b p : Int) (ha : a ≠ 0) (hb : b ≠ 0) (b0 : -9223372036854775808 ≤ b) (b1 : b < 9223372036854775808) (hp : IntKind.i64.wrap (a * b) = p)
    (hs : (decide (p < 0) != (decide (a < 0) != decide (b < 0))) = false) (hq : IntKind.i64.wrap (p.tdiv b) = a) : p = a * b := by
  obtain ⟨k, h1, h2, h3⟩ := wrap_cases (a * b)
  rw [hp] at h1 h2 h3
  obtain ⟨s1, s2⟩ := sign_mul a b ha hb
  obtain ⟨t1, t2, t3, t4, t5⟩ := tdiv_spec p b hb
  by_cases he : p = -9223372036854775808 ∧ b = -1
  · obtain ⟨rfl, rfl⟩ := he
    have e : (-9223372036854775808 : Int).tdiv (-1) = 9223372036854775808 := by decide
    rw [e] at hq
    have e2 : IntKind.i64.wrap 9223372036854775808 = -9223372036854775808 := by decide
    rw [e2] at hq
    subst hq
    revert hs; decide
  · have hr : -9223372036854775808 ≤ p.tdiv b ∧ p.tdiv b < 9223372036854775808 := by
      have hn : (p.tdiv b).natAbs = p.natAbs / b.natAbs := Int.natAbs_tdiv p b
      have hl : p.natAbs / b.natAbs ≤ p.natAbs := Nat.div_le_self _ _
      by_cases hm : p = -9223372036854775808
      · have : b ≠ -1 := fun h => he ⟨hm, h⟩
        by_cases h1' : b = 1
        · subst h1'; rw [Int.tdiv_one]; omega
        · have : 2 ≤ b.natAbs := by omega
          have : p.natAbs / b.natAbs ≤ p.natAbs / 2 := Nat.div_le_div_left this (by omega)
          omega
      · omega
    rw [wrap_in hr] at hq
    rw [hq, Int.mul_comm] at t1
    omega
theorem mul_in (a b : Int) (ha : a ≠ 0) (hb : b ≠ 0) (a0 : -9223372036854775808 ≤ a) (a1 : a < 9223372036854775808) :
    (decide (a * b < 0) != (decide (a < 0) != decide (b < 0))) = false ∧ IntKind.i64.wrap ((a * b).tdiv b) = a := by
  obtain ⟨s1, s2⟩ := sign_mul a b ha hb
  refine ⟨?_, ?_⟩
  · cases h : (decide (a < 0) != decide (b < 0)) with
    | true => rw [decide_eq_true (s1.2 h)]; rfl
    | false => rw [decide_eq_false (fun g => by rw [s1.1 g] at h; cases h)]; rfl
  · rw [Int.mul_tdiv_cancel _ hb]
    exact wrap_in ⟨a0, a1⟩
end Go.Proofs.Ytpbcplgpbafjpab.W
