import Derived.Test.YtgmimmdojkoppaaGreatDoorFmZJ
import Derived.Test.YtgmimmdojkoppaaGreatDoorBase29
/- A rounded sum stands to a double as the exact sum does. -/
namespace Go.Proofs.YtgmimmdojkoppaaGreatDoor.W.Nu
open Ieee
set_option linter.unusedVariables false
/-- patterns in order, numbers in order -/
theorem lin_key {m M E e : Nat} (hm : m < 9007199254740992) (hM : M < 9007199254740992) (nm : 4503599627370496 ≤ m ∨ E = 0) (nM : 4503599627370496 ≤ M ∨ e = 0) (h : E * 4503599627370496 + m ≤ e * 4503599627370496 + M) : m * 2 ^ E ≤ M * 2 ^ e := by
  rcases Nat.lt_trichotomy E e with c | c | c
  · have hM' : 4503599627370496 ≤ M := by rcases nM with h | h <;> omega
    have a1 : m * 2 ^ E ≤ 9007199254740992 * 2 ^ E := Nat.mul_le_mul_right _ (by omega)
    have a2 : 2 ^ (E + 1) ≤ 2 ^ e := Nat.pow_le_pow_right (by omega) c
    have a3 : 4503599627370496 * 2 ^ (E + 1) ≤ M * 2 ^ e := Nat.mul_le_mul hM' a2
    rw [Nat.pow_succ] at a3
    omega
  · subst c
    exact Nat.mul_le_mul_right _ (by omega)
  · exfalso
    have hm' : 4503599627370496 ≤ m := by rcases nm with h | h <;> omega
    omega
theorem add_near (a b : Int) (a1 : a < 18446744073709551616) (b1 : b < 18446744073709551616) (fa : finB a = true) (fb : finB b = true) :
    ∃ s : Bool, opI .add a b = (Ieee.double.nearest s (keyI a + keyI b).natAbs (-1074) : Nat) ∧ (keyI a + keyI b ≠ 0 → s = decide (keyI a + keyI b < 0)) := by
  obtain ⟨s, m, p, ea⟩ := fin_read a fa
  obtain ⟨t, n, q, eb⟩ := fin_read b fb
  obtain ⟨-, hp, -, -, -⟩ := read_number (by omega) ea
  obtain ⟨-, hq, -, -, -⟩ := read_number (by omega) eb
  have e1 : (p + 1074).toNat = (p - min p q).toNat + (min p q + 1074).toNat := by omega
  have e2 : (q + 1074).toNat = (q - min p q).toNat + (min p q + 1074).toNat := by omega
  have hs : keyI a + keyI b = (signed s m (p - min p q).toNat + signed t n (q - min p q).toNat) * ((2 ^ (min p q + 1074).toNat : Nat) : Int) := by
    rw [show keyI a = key (Ieee.double.read a.toNat) from rfl, show keyI b = key (Ieee.double.read b.toNat) from rfl, ea, eb]
    simp only [key]
    rw [e1, e2, signed_add, signed_add, ← Int.add_mul]
  have e3 : opI .add a b = (Ieee.double.nearest (if signed s m (p - min p q).toNat + signed t n (q - min p q).toNat = 0 then s && t else decide (signed s m (p - min p q).toNat + signed t n (q - min p q).toNat < 0)) (signed s m (p - min p q).toNat + signed t n (q - min p q).toNat).natAbs (min p q) : Nat) := by
    unfold opI
    have : floatBits .add .f64 a.toNat b.toNat = ((Ieee.double.read a.toNat).sum (Ieee.double.read b.toNat)).map Ieee.double.write := rfl
    rw [this, ea, eb]
    rfl
  generalize signed s m (p - min p q).toNat + signed t n (q - min p q).toNat = T at *
  have hB : (0 : Int) < ((2 ^ (min p q + 1074).toNat : Nat) : Int) := by have := Nat.two_pow_pos (min p q + 1074).toNat; omega
  have hab : (keyI a + keyI b).natAbs = T.natAbs * 2 ^ (min p q + 1074).toNat := by rw [hs, Int.natAbs_mul, Int.natAbs_natCast]
  refine ⟨if T = 0 then s && t else decide (T < 0), ?_, ?_⟩
  · rw [e3, hab, ← nearest_shift Ieee.double _ T.natAbs (min p q + 1074).toNat (min p q), show min p q - ((min p q + 1074).toNat : Int) = -1074 from by omega]
  · intro h0
    have hT : T ≠ 0 := fun hT => h0 (by rw [hs, hT, Int.zero_mul])
    rw [if_neg hT, hs]
    congr 1
    apply propext
    constructor
    · exact fun g => Int.mul_neg_of_neg_of_pos g hB
    · intro g
      exact Int.not_le.1 (fun g' => by have := Int.mul_nonneg g' (Int.le_of_lt hB); omega)
/-- a finite double in plain words: its sign, its digits, its place -/
theorem fin_parts (x : Int) (x0 : 0 ≤ x) (x1 : x < 18446744073709551616) (fx : finB x = true) : ∃ (s : Bool) (m e : Nat), e ≤ 2045 ∧ m < 9007199254740992 ∧ (4503599627370496 ≤ m ∨ e = 0) ∧ x = (if s then 9223372036854775808 else 0) + ((e * 4503599627370496 + m : Nat) : Int) ∧ keyI x = (if s then -((m * 2 ^ e : Nat) : Int) else ((m * 2 ^ e : Nat) : Int)) := by
  obtain ⟨s, m, p, ex⟩ := fin_read x fx
  obtain ⟨h1, h2, h3, h4, h5⟩ := read_number (by omega) ex
  refine ⟨s, m, (p + 1074).toNat, by omega, h1, by rcases h4 with h | h; exact .inl h; exact .inr (by omega), ?_, ?_⟩
  · cases s <;> simp at h5 ⊢ <;> omega
  · show key (Ieee.double.read x.toNat) = _
    rw [ex, key, signed_v]
theorem near_parts (s : Bool) (V : Nat) (hV : V ≤ 4503599627370496 * 2 ^ 1086) : ∃ m e : Nat, m < 9007199254740992 ∧ (4503599627370496 ≤ m ∨ e = 0) ∧ codeN V = e * 4503599627370496 + m ∧ finB (Ieee.double.nearest s V (-1074) : Nat) = true ∧ keyI (Ieee.double.nearest s V (-1074) : Nat) = (if s then -((m * 2 ^ e : Nat) : Int) else ((m * 2 ^ e : Nat) : Int)) := by
  have hc : codeN V ≤ 1086 * 4503599627370496 + 4503599627370496 := code_le (by decide) (.inl (by decide)) hV
  have hx := near_code s V
  rw [Nat.min_eq_left (by omega)] at hx
  have hf : finB (Ieee.double.nearest s V (-1074) : Nat) = true := by
    rw [hx]
    unfold finB
    cases s <;> simp <;> omega
  obtain ⟨s', m, e, h0, h1, h2, h3, h4⟩ := fin_parts (Ieee.double.nearest s V (-1074) : Nat) (by omega) (by rw [hx]; cases s <;> simp <;> omega) hf
  rw [hx] at h3
  have hs : s' = s := by cases s <;> cases s' <;> simp at h3 ⊢ <;> omega
  subst hs
  exact ⟨m, e, h1, h2, by cases s' <;> simp at h3 <;> omega, hf, h4⟩
/-- a rounded sum is at most a double, if the exact one is -/
theorem add_le (a b T : Int) (a1 : a < 18446744073709551616) (b1 : b < 18446744073709551616) (fa : finB a = true) (fb : finB b = true) (hV : (keyI a + keyI b).natAbs ≤ 4503599627370496 * 2 ^ 1086) (T0 : 0 ≤ T) (T1 : T < 18446744073709551616) (fT : finB T = true) (h : keyI a + keyI b ≤ keyI T) : finB (opI .add a b) = true ∧ keyI (opI .add a b) ≤ keyI T := by
  obtain ⟨s, e1, hs⟩ := add_near a b a1 b1 fa fb
  obtain ⟨m, e, p1, p2, p3, p4, p5⟩ := near_parts s _ hV
  obtain ⟨t, M, E, q0, q1, q2, q3, q4⟩ := fin_parts T T0 T1 fT
  rw [e1]
  refine ⟨p4, ?_⟩
  rw [p5, q4]
  rw [q4] at h
  have n1 : (0 : Int) ≤ ((m * 2 ^ e : Nat) : Int) := Int.natCast_nonneg _
  have n2 : (0 : Int) ≤ ((M * 2 ^ E : Nat) : Int) := Int.natCast_nonneg _
  have up : (keyI a + keyI b).natAbs ≤ M * 2 ^ E → m * 2 ^ e ≤ M * 2 ^ E := fun hh => lin_key p1 q1 p2 q2 (by rw [← p3]; exact code_le q1 q2 hh)
  have dn : M * 2 ^ E ≤ (keyI a + keyI b).natAbs → M * 2 ^ E ≤ m * 2 ^ e := fun hh => lin_key q1 p1 q2 p2 (by rw [← p3]; exact code_ge q1 q2 hh)
  generalize m * 2 ^ e = X at *
  generalize M * 2 ^ E = Y at *
  generalize keyI a + keyI b = Z at *
  by_cases hz : Z = 0
  · subst hz
    cases s <;> cases t <;> simp at h ⊢ <;> have := up (by simp) <;> omega
  · have hs' := hs hz
    subst hs'
    by_cases g : Z < 0
    · simp only [g, decide_true, if_true]
      cases t
      · simp <;> omega
      · simp at h ⊢; have := dn (by omega); omega
    · simp only [g, decide_false]
      cases t
      · simp at h ⊢; have := up (by omega); omega
      · simp at h; omega
theorem add_ge (a b T : Int) (a1 : a < 18446744073709551616) (b1 : b < 18446744073709551616) (fa : finB a = true) (fb : finB b = true) (hV : (keyI a + keyI b).natAbs ≤ 4503599627370496 * 2 ^ 1086) (T0 : 0 ≤ T) (T1 : T < 18446744073709551616) (fT : finB T = true) (h : keyI T ≤ keyI a + keyI b) : finB (opI .add a b) = true ∧ keyI T ≤ keyI (opI .add a b) := by
  obtain ⟨s, e1, hs⟩ := add_near a b a1 b1 fa fb
  obtain ⟨m, e, p1, p2, p3, p4, p5⟩ := near_parts s _ hV
  obtain ⟨t, M, E, q0, q1, q2, q3, q4⟩ := fin_parts T T0 T1 fT
  rw [e1]
  refine ⟨p4, ?_⟩
  rw [p5, q4]
  rw [q4] at h
  have n1 : (0 : Int) ≤ ((m * 2 ^ e : Nat) : Int) := Int.natCast_nonneg _
  have n2 : (0 : Int) ≤ ((M * 2 ^ E : Nat) : Int) := Int.natCast_nonneg _
  have up : (keyI a + keyI b).natAbs ≤ M * 2 ^ E → m * 2 ^ e ≤ M * 2 ^ E := fun hh => lin_key p1 q1 p2 q2 (by rw [← p3]; exact code_le q1 q2 hh)
  have dn : M * 2 ^ E ≤ (keyI a + keyI b).natAbs → M * 2 ^ E ≤ m * 2 ^ e := fun hh => lin_key q1 p1 q2 p2 (by rw [← p3]; exact code_ge q1 q2 hh)
  generalize m * 2 ^ e = X at *
  generalize M * 2 ^ E = Y at *
  generalize keyI a + keyI b = Z at *
  by_cases hz : Z = 0
  · subst hz
    cases s <;> cases t <;> simp at h ⊢ <;> have := up (by simp) <;> omega
  · have hs' := hs hz
    subst hs'
    by_cases g : Z < 0
    · simp only [g, decide_true, if_true]
      cases t
      · simp at h; omega
      · simp at h ⊢; have := up (by omega); omega
    · simp only [g, decide_false]
      cases t
      · simp at h ⊢; have := dn (by omega); omega
      · simp <;> omega
end Go.Proofs.YtgmimmdojkoppaaGreatDoor.W.Nu
