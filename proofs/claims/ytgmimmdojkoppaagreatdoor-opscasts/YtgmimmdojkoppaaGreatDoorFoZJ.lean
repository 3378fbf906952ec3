import Derived.Test.YtgmimmdojkoppaaGreatDoorFnZJ
import Derived.Test.YtgmimmdojkoppaaGreatDoorBase29
/- A double cut to a whole number is at most one off, in rounded words. -/
namespace Go.Proofs.YtgmimmdojkoppaaGreatDoor.W.Nu
set_option linter.unusedVariables false
theorem one_key : finB (fromI 1) = true ∧ keyI (fromI 1) = one1 := by
  have := fromI_key 1 (by decide)
  rw [Int.one_mul] at this
  exact this
theorem one_big {k : Nat} (h : k = 1086) : 9223372036854775809 * one1 ≤ 4503599627370496 * 2 ^ k := by
  obtain ⟨j, hj⟩ : ∃ j : Nat, j = 1074 := ⟨_, rfl⟩
  have hk : k = 12 + j := by omega
  rw [hk, Nat.pow_add, pow_one1 hj, ← Nat.mul_assoc]
  exact Nat.mul_le_mul_right _ (by decide)
theorem near_one {d s : Int} (h1 : -9223372036854775808 * (one1 : Int) ≤ d) (h2 : d < 9223372036854775808 * one1) (hs : s = d + one1 ∨ s = d + -(one1 : Int)) : s.natAbs ≤ 4503599627370496 * 2 ^ 1086 := by
  have p := one1_int
  have b := one_big (k := 1086) rfl
  refine Nat.le_trans ?_ b
  omega
/-- one more, rounded, is not below the whole part; one less is not above it -/
theorem cut_near (d T : Int) (d0 : 0 ≤ d) (d1 : d < 18446744073709551616) (fd : finB d = true) (h1 : -9223372036854775808 * (one1 : Int) ≤ keyI d) (h2 : keyI d < 9223372036854775808 * one1) (T0 : 0 ≤ T) (T1 : T < 18446744073709551616) (fT : finB T = true) (hT : keyI T = truncI d * one1) :
    (finB (opI .add d (fromI 1)) = true ∧ keyI T ≤ keyI (opI .add d (fromI 1))) ∧ (finB (opI .sub d (fromI 1)) = true ∧ keyI (opI .sub d (fromI 1)) ≤ keyI T) := by
  obtain ⟨k1, k2⟩ := trunc_key d d1 fd
  obtain ⟨o1, o2⟩ := one_key
  have r1 : 0 ≤ fromI 1 := by decide +kernel
  have r2 : fromI 1 < 18446744073709551616 := by decide +kernel
  have r3 : negI (fromI 1) < 18446744073709551616 := by decide +kernel
  have n2 : keyI (negI (fromI 1)) = -(one1 : Int) := by rw [keyI_neg _ r1 r2 (fromI_nan 1), o2]
  have p := one1_int
  constructor
  · refine add_ge d (fromI 1) T d1 r2 fd o1 (near_one h1 h2 (.inl (by rw [o2]))) T0 T1 fT ?_
    rw [hT, o2]
    by_cases g : 0 ≤ keyI d
    · have := k1 g; omega
    · have := k2 (by omega); omega
  · rw [← sub_add d (fromI 1) r1 r2]
    refine add_le d (negI (fromI 1)) T d1 r3 fd (finB_neg _ o1) (near_one h1 h2 (.inr (by rw [n2]))) T0 T1 fT ?_
    rw [hT, n2]
    by_cases g : 0 ≤ keyI d
    · have := k1 g; omega
    · have := k2 (by omega); omega
end Go.Proofs.YtgmimmdojkoppaaGreatDoor.W.Nu
