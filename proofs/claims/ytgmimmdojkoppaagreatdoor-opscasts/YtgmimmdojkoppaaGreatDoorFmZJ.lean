import Derived.Test.YtgmimmdojkoppaaGreatDoorBase28
/- Rounding keeps the order against what is a double itself. -/
namespace Go.Proofs.YtgmimmdojkoppaaGreatDoor.W.Nu
open Ieee
set_option linter.unusedVariables false
theorem cutE_le {n g N : Nat} (hg : 0 < g) (h : n ≤ N * g) : cutE n g ≤ N := by
  unfold cutE
  have h1 : n / g ≤ N := by rw [Nat.div_le_iff_le_mul_add_pred hg, Nat.mul_comm]; omega
  rcases Nat.lt_or_ge (n / g) N with h2 | h2
  · split <;> omega
  · have e : n / g = N := by omega
    have h3 := Nat.div_add_mod n g
    rw [e, Nat.mul_comm] at h3
    have h4 : n % g = 0 := by omega
    rw [h4, if_neg (by omega)]
    omega
theorem le_cutE {n g N : Nat} (hg : 0 < g) (h : N * g ≤ n) : N ≤ cutE n g := by
  unfold cutE
  have h1 : N ≤ n / g := (Nat.le_div_iff_mul_le hg).2 h
  omega
/-- where the digits that are kept begin, for a number told in the least place's units -/
def lz (V : Nat) : Nat := V.log2 - 52
/-- its double's pattern without the sign, were there no bound -/
def codeN (V : Nat) : Nat := lz V * 4503599627370496 + cutE V (2 ^ lz V)
theorem near_code (s : Bool) (V : Nat) : Ieee.double.nearest s V (-1074) = (if s then 9223372036854775808 else 0) + min (codeN V) 9218868437227405312 := by
  unfold Format.nearest
  by_cases h0 : V = 0
  · subst h0
    rw [if_pos rfl, word_eq]
    cases s <;> decide
  · rw [if_neg h0]
    have eL : max ((-1074 : Int) + (V.log2 : Nat) - ((Ieee.double.fractionBits : Nat) : Int)) Ieee.double.leastPlace = -1074 + (lz V : Nat) := by
      rw [D_least]
      show max ((-1074 : Int) + (V.log2 : Nat) - 52) (-1074) = _
      unfold lz
      omega
    simp only [eL]
    rw [cut_even, D_least, D_bin, D_inf, word_eq]
    have e1 : ((-1074 : Int) - (-1074 + (lz V : Nat))).toNat = 0 := by omega
    have e2 : ((-1074 : Int) + (lz V : Nat) - -1074).toNat = lz V := by omega
    rw [e1, e2]
    simp only [Nat.shiftLeft_zero]
    unfold codeN
    congr 2
theorem code_le {V M e : Nat} (hM : M < 9007199254740992) (hn : 4503599627370496 ≤ M ∨ e = 0) (h : V ≤ M * 2 ^ e) : codeN V ≤ e * 4503599627370496 + M := by
  unfold codeN
  have hp : 0 < 2 ^ lz V := Nat.two_pow_pos _
  rcases Nat.lt_trichotomy (lz V) e with c | c | c
  · have hM' : 4503599627370496 ≤ M := by rcases hn with h | h <;> omega
    have hV : V ≤ 9007199254740992 * 2 ^ lz V := by
      have a1 : V < 2 ^ (V.log2 + 1) := Nat.lt_log2_self
      have a2 : 2 ^ (V.log2 + 1) ≤ 2 ^ (53 + lz V) := Nat.pow_le_pow_right (by omega) (by unfold lz; omega)
      rw [Nat.pow_add 2 53 (lz V)] at a2
      have : (2 : Nat) ^ 53 = 9007199254740992 := by decide
      rw [this] at a2
      omega
    have := cutE_le hp hV
    omega
  · rw [c] at hp ⊢
    have := cutE_le hp h
    omega
  · exfalso
    have hl : V.log2 = lz V + 52 := by unfold lz at *; omega
    have h0 : V ≠ 0 := fun h0 => by rw [h0] at hl; simp at hl
    have a1 : 2 ^ V.log2 ≤ V := Nat.log2_self_le h0
    rw [hl] at a1
    have a2 : 2 ^ (e + 53) ≤ 2 ^ (lz V + 52) := Nat.pow_le_pow_right (by omega) (by omega)
    have a3 : M * 2 ^ e < 9007199254740992 * 2 ^ e := Nat.mul_lt_mul_of_pos_right hM (Nat.two_pow_pos _)
    rw [Nat.pow_add 2 e 53] at a2
    have : (2 : Nat) ^ 53 = 9007199254740992 := by decide
    rw [this, Nat.mul_comm] at a2
    omega
theorem code_ge {V M e : Nat} (hM : M < 9007199254740992) (hn : 4503599627370496 ≤ M ∨ e = 0) (h : M * 2 ^ e ≤ V) : e * 4503599627370496 + M ≤ codeN V := by
  unfold codeN
  have hp : 0 < 2 ^ lz V := Nat.two_pow_pos _
  rcases Nat.lt_trichotomy (lz V) e with c | c | c
  · exfalso
    have hM' : 4503599627370496 ≤ M := by rcases hn with h | h <;> omega
    have a1 : V < 2 ^ (V.log2 + 1) := Nat.lt_log2_self
    have a2 : 2 ^ (V.log2 + 1) ≤ 2 ^ (52 + e) := Nat.pow_le_pow_right (by omega) (by unfold lz at c; omega)
    have a3 : 4503599627370496 * 2 ^ e ≤ M * 2 ^ e := Nat.mul_le_mul_right _ hM'
    rw [Nat.pow_add 2 52 e] at a2
    have : (2 : Nat) ^ 52 = 4503599627370496 := by decide
    rw [this] at a2
    omega
  · rw [c] at hp ⊢
    have := le_cutE hp h
    omega
  · have hl : V.log2 = lz V + 52 := by unfold lz at *; omega
    have h0 : V ≠ 0 := fun h0 => by rw [h0] at hl; simp at hl
    have a1 : 2 ^ V.log2 ≤ V := Nat.log2_self_le h0
    rw [hl, Nat.pow_add, Nat.mul_comm] at a1
    have : (2 : Nat) ^ 52 = 4503599627370496 := by decide
    rw [this] at a1
    have := le_cutE hp a1
    omega
end Go.Proofs.YtgmimmdojkoppaaGreatDoor.W.Nu
