/- The walk of the statement NumDoubles: it returns true at every two whole numbers. -/
import Derived.Test.YtpbcplgpbafjpabNumDoublesA
namespace Go.Proofs.Ytpbcplgpbafjpab.W
open Go.ChangeShapes Go.WideShapes Go.RowKit
theorem numDoubles_walk (a0 : Int) (a1 : Int) (w0 : (Lit.int .i64 a0).wf = true) (w1 : (Lit.int .i64 a1).wf = true) (w : World) :
    Calls Try.prog 6 #[.int .i64 a0, .int .i64 a1] w fun e w' => e = .returned (.bool true) ∧ Below w.heap.size w w' := by
  obtain ⟨h0, h0'⟩ := bounds_i64 w0
  obtain ⟨h1, h1'⟩ := bounds_i64 w1
  refine Calls.mono (R := fun e w' => e = .returned (.bool true) ∧ Gr w w') ?_ (fun _ _ ⟨h, g⟩ => ⟨h, g.below⟩)
  by_cases h : 0 ≤ a1 ∧ a1 ≤ 62
  · have t : (0 : Int) < 2 ^ a1.toNat ∧ (2 : Int) ^ a1.toNat ≤ 4611686018427387904 := by
      have e : (2 : Int) ^ a1.toNat = ((2 ^ a1.toNat : Nat) : Int) := by rw [Int.natCast_pow]; rfl
      have l : 2 ^ a1.toNat ≤ 2 ^ 62 := Nat.pow_le_pow_right (by omega) (by omega)
      have p := Nat.two_pow_pos a1.toNat
      rw [e]; omega
    have e2 : wrap64 (2 ^ a1.toNat) = 2 ^ a1.toNat := by rw [wrap64_eq]; exact wrap_in (by omega)
    have c1 := shl_c a0 a1
    have c2 := numMul_c true true a0 0 (2 ^ a1.toNat) 0 (by omega) (by omega) (by omega) (by omega)
    have eM : mulR true a0 0 true (2 ^ a1.toNat) 0 = fitR (a0 * 2 ^ a1.toNat) := if_pos ⟨rfl, rfl⟩
    rw [eM] at c2
    refine numDoubles_core a0 a1 (2 ^ a1.toNat) _ _ _ _ _ _ w h.1 (by omega) (by rw [Int.one_mul]; exact e2) e2 (by rw [← wrap64_eq]; exact e2) ?_ c1 c2
    by_cases hf : -9223372036854775808 ≤ a0 * 2 ^ a1.toNat ∧ a0 * 2 ^ a1.toNat < 9223372036854775808
    · have v1 : shlV a0 a1 = a0 * 2 ^ a1.toNat := if_pos ⟨h.1, by omega, hf⟩
      have v2 : shlE a0 a1 = 0 := by
        unfold shlE
        rw [if_pos (show 0 ≤ a1 ∧ a1 ≤ 63 by omega), if_pos hf]
      rw [fitR_in hf, v1, v2]
      exact Or.inl ⟨rfl, rfl, rfl, rfl, rfl⟩
    · have v2 : shlE a0 a1 = 10 := by
        unfold shlE
        rw [if_pos (show 0 ≤ a1 ∧ a1 ≤ 63 by omega), if_neg hf]
      rw [fitR_out hf, v2]
      exact Or.inr ⟨rfl, rfl⟩
  · exact numDoubles_out a0 a1 w (by omega)
end Go.Proofs.Ytpbcplgpbafjpab.W
