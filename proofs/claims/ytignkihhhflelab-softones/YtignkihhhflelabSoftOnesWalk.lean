/- The walk of the statement SoftOnes: it returns true at every pattern. -/
import Derived.Test.YtignkihhhflelabAwake
import Derived.Test.YtignkihhhflelabF6
import Derived.OpenShut
import Derived.RowKit3
namespace Go.Proofs.Ytignkihhhflelab.W
open Go.ChangeShapes Go.WideShapes Go.RowKit

theorem Grown.drewN {W w' : World} (h : Grown W w') (m : Nat) : Grown W (w'.drewN m) := h
theorem low_eq (n : Int) (h0 : 0 ≤ n) (h1 : n < 18446744073709551616) : bits .and .u64 n 9223372036854775807 = n % 9223372036854775808 := by
  rw [u64_and n _ h0 h1 (by decide) (by decide)]
  have e : (9223372036854775807 : Int).toNat = 2 ^ 63 - 1 := by decide
  rw [e, Nat.and_two_pow_sub_one_eq_mod]
  omega
set_option maxHeartbeats 2000000 in
theorem softOnes_nan (a0 : Int) (h0 : 0 ≤ a0) (h0' : a0 < 18446744073709551616) (hn : nanB a0 = true) (w : World) :
    Calls Try.prog 4 #[.int .u64 a0] w fun e w' => e = .returned (.bool true) ∧ Grown w w' := by
  have c1 : ∀ w, Calls Try.prog 15 #[.int .u64 a0, .int .u64 4607182418800017408] w fun e w' => e = .returned (.int .u64 9221120237041090560) ∧ ∃ m, w' = w.drewN m := by
    have := softMul_c a0 4607182418800017408; rwa [opI_nan _ _ _ h0 hn] at this
  have c2 : ∀ w, Calls Try.prog 16 #[.int .u64 a0, .int .u64 a0] w fun e w' => e = .returned (.int .u64 9221120237041090560) ∧ ∃ m, w' = w.drewN m := by
    have := softDiv_c a0 a0; rwa [opI_nan _ _ _ h0 hn] at this
  have c3 : ∀ w, Calls Try.prog 8 #[.int .u64 a0, .int .u64 0] w fun e w' => e = .returned (.int .u64 9221120237041090560) ∧ ∃ m, w' = w.drewN m := by
    have := softAdd_c a0 0; rwa [opI_nan _ _ _ h0 hn] at this
  have c4 : ∀ w, Calls Try.prog 12 #[.int .u64 a0] w fun e w' => e = .returned (.int .u64 9221120237041090560) ∧ ∃ m, w' = w.drewN m := by
    have := softFloor_c a0 h0; rwa [floorI_canon a0 h0 (by rw [floorI_nan a0 h0, hn])] at this
  go_enter Try.func4, Try.ntmps4
  go_wp2_with (first | (go_at_call 6; refine (refNaN_c _ (by omega) (by omega) _).mono ?_; rw [hn]; rintro e w' ⟨rfl, rfl⟩) | (go_at_call 15; with_reducible refine (c1 _).mono ?_; rintro e w' ⟨rfl, m, rfl⟩) | (go_at_call 16; with_reducible refine (c2 _).mono ?_; rintro e w' ⟨rfl, m, rfl⟩) | (go_at_call 8; with_reducible refine (c3 _).mono ?_; rintro e w' ⟨rfl, m, rfl⟩) | (go_at_call 12; with_reducible refine (c4 _).mono ?_; rintro e w' ⟨rfl, m, rfl⟩) | (go_at_call 14; refine (awake_c _).mono ?_; rintro e w' ⟨rfl, m, rfl⟩))
  go_ret
  exact ⟨rfl, Grown.drewN (Grown.refl _) _⟩
set_option maxHeartbeats 4000000 in
theorem softOnes_plain (a0 r z u v : Int) (h0 : 0 ≤ a0) (h0' : a0 < 18446744073709551616) (hn : nanB a0 = false) (w : World)
    (hr : bits .and .u64 a0 9223372036854775807 = r)
    (c1 : ∀ w, Calls Try.prog 15 #[.int .u64 a0, .int .u64 4607182418800017408] w fun e w' => e = .returned (.int .u64 a0) ∧ ∃ m, w' = w.drewN m)
    (c2 : ∀ w, Calls Try.prog 16 #[.int .u64 a0, .int .u64 4607182418800017408] w fun e w' => e = .returned (.int .u64 a0) ∧ ∃ m, w' = w.drewN m)
    (c3 : ∀ w, Calls Try.prog 18 #[.int .u64 a0, .int .u64 a0] w fun e w' => e = .returned (.int .u64 z) ∧ ∃ m, w' = w.drewN m)
    (c4 : ∀ w, Calls Try.prog 16 #[.int .u64 a0, .int .u64 a0] w fun e w' => e = .returned (.int .u64 u) ∧ ∃ m, w' = w.drewN m)
    (c5 : ∀ w, Calls Try.prog 8 #[.int .u64 a0, .int .u64 a0] w fun e w' => e = .returned (.int .u64 v) ∧ ∃ m, w' = w.drewN m)
    (c6 : ∀ w, Calls Try.prog 15 #[.int .u64 a0, .int .u64 4611686018427387904] w fun e w' => e = .returned (.int .u64 v) ∧ ∃ m, w' = w.drewN m)
    (c7 : ∀ w, Calls Try.prog 17 #[.int .u64 v, .int .u64 v] w fun e w' => e = .returned (.bool true) ∧ w' = w)
    (c8 : ∀ w, Calls Try.prog 17 #[.int .u64 0, .int .u64 0] w fun e w' => e = .returned (.bool true) ∧ w' = w)
    (hC : (r = 9218868437227405312 ∧ z = 9221120237041090560 ∧ u = 9221120237041090560) ∨ (r = 0 ∧ z = 0 ∧ u = 9221120237041090560) ∨ ((r == 9218868437227405312) = false ∧ (r == 0) = false ∧ z = 0 ∧ u = 4607182418800017408)) :
    Calls Try.prog 4 #[.int .u64 a0] w fun e w' => e = .returned (.bool true) ∧ Grown w w' := by
  rcases hC with ⟨rfl, rfl, rfl⟩ | ⟨rfl, rfl, rfl⟩ | ⟨r1, r2, rfl, rfl⟩
  all_goals
    go_enter Try.func4, Try.ntmps4
    go_wp2_with (first | (go_at_call 6; refine (refNaN_c _ (by omega) (by omega) _).mono ?_; rw [hn]; rintro e w' ⟨rfl, rfl⟩) | (go_at_call 15; with_reducible refine (c1 _).mono ?_; rintro e w' ⟨rfl, m, rfl⟩) | (go_at_call 16; with_reducible refine (c2 _).mono ?_; rintro e w' ⟨rfl, m, rfl⟩) | (go_at_call 18; with_reducible refine (c3 _).mono ?_; rintro e w' ⟨rfl, m, rfl⟩) | (go_at_call 16; with_reducible refine (c4 _).mono ?_; rintro e w' ⟨rfl, m, rfl⟩) | (go_at_call 8; with_reducible refine (c5 _).mono ?_; rintro e w' ⟨rfl, m, rfl⟩) | (go_at_call 15; with_reducible refine (c6 _).mono ?_; rintro e w' ⟨rfl, m, rfl⟩) | (go_at_call 17; with_reducible refine (c7 _).mono ?_; rintro e w' ⟨rfl, rfl⟩) | (go_at_call 17; with_reducible refine (c8 _).mono ?_; rintro e w' ⟨rfl, rfl⟩) | (go_at_call 14; refine (awake_c _).mono ?_; rintro e w' ⟨rfl, m, rfl⟩))
    go_ret
    exact ⟨rfl, Grown.drewN (Grown.refl _) _⟩
theorem equal_self (v : Int) (h0 : 0 ≤ v) (h1 : v < 18446744073709551616) (hn : nanB v = false) : equalI v v = true := by
  rw [equalI_key v v h0 h1 h0 h1 hn hn]; simp
theorem opI_plain_mul2 (a : Int) (h0 : 0 ≤ a) (hn : nanB a = false) : nanB (opI .mul a 4611686018427387904) = false := by
  have y : floatBits .mul .f64 a.toNat (4611686018427387904 : Int).toNat = ((Ieee.double.read a.toNat).product (Ieee.double.read (4611686018427387904 : Int).toNat)).map Ieee.double.write := rfl
  unfold opI
  rw [y, read_two]
  rcases plain_read a h0 hn with ⟨s, m, p, e⟩ | ⟨s, e⟩
  · rw [e]; exact nearest_plain _ _ _
  · rw [e]; exact write_plain (.infinity (s ^^ false)) rfl
theorem softOnes_walk (a0 : Int) (w0 : (Lit.int .u64 a0).wf = true) (w : World) :
    Calls Try.prog 4 #[.int .u64 a0] w fun e w' => e = .returned (.bool true) ∧ Grown w w' := by
  obtain ⟨h0, h0''⟩ := bounds_u64 w0
  have h0' : a0 < 18446744073709551616 := by omega
  cases hn : nanB a0 with
  | true => exact softOnes_nan a0 h0 h0' hn w
  | false =>
    have x1 := softMul_c a0 4607182418800017408
    rw [mul_one a0 h0 h0' hn] at x1
    have x2 := softDiv_c a0 4607182418800017408
    rw [div_one a0 h0 h0' hn] at x2
    have x5 := softAdd_c a0 a0
    rw [add_self a0 h0 h0' hn] at x5
    have x7 := softEqual_c (opI .mul a0 4611686018427387904) (opI .mul a0 4611686018427387904)
    obtain ⟨r1, r2⟩ := opI_range .mul a0 4611686018427387904
    rw [equal_self _ r1 r2 (opI_plain_mul2 a0 h0 hn)] at x7
    have x8 := softEqual_c 0 0
    rw [equal_self 0 (by decide) (by decide) (by decide)] at x8
    refine softOnes_plain a0 (a0 % 9223372036854775808) (opI .sub a0 a0) (opI .quo a0 a0) (opI .mul a0 4611686018427387904) h0 h0' hn w (low_eq a0 h0 h0') x1 x2 (softSub_c a0 a0) (softDiv_c a0 a0) x5 (softMul_c a0 4611686018427387904) x7 x8 ?_
    by_cases hi : a0 % 9223372036854775808 = 9218868437227405312
    · exact Or.inl ⟨hi, (inf_self a0 h0 hi).1, (inf_self a0 h0 hi).2⟩
    · have hf : finB a0 = true := by
        simp only [nanB, decide_eq_false_iff_not] at hn
        simp only [finB, decide_eq_true_eq]; omega
      by_cases hz : a0 % 9223372036854775808 = 0
      · exact Or.inr (Or.inl ⟨hz, sub_self_fin a0 hf, zero_self a0 hz⟩)
      · exact Or.inr (Or.inr ⟨by simpa using hi, by simpa using hz, sub_self_fin a0 hf, div_self a0 h0 h0' hf hz⟩)
end Go.Proofs.Ytignkihhhflelab.W
