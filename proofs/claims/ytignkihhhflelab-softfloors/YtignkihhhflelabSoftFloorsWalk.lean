/- The walk of the statement SoftFloors: it returns true at every pattern. -/
import Derived.Test.YtignkihhhflelabAwake
import Derived.Test.YtignkihhhflelabF6
import Derived.OpenShut
import Derived.RowKit3
namespace Go.Proofs.Ytignkihhhflelab.W
open Go.ChangeShapes Go.WideShapes Go.RowKit

theorem Grown.drewN {W w' : World} (h : Grown W w') (m : Nat) : Grown W (w'.drewN m) := h
theorem low_eq (n : Int) (h0 : 0 ≤ n) (h1 : n < 18446744073709551616) : bits .and .u64 n 9223372036854775807 = n % 9223372036854775808 := by
  rw [u64_and n _ h0 h1 (by decide) (by decide)]
  have e : (9223372036854775807 : Int).toNat = 2 ^ 63 - 1 := by decide
  rw [e, Nat.and_two_pow_sub_one_eq_mod]
  omega
set_option maxHeartbeats 2000000 in
theorem softFloors_skip (a0 r : Int) (h0 : 0 ≤ a0) (h0' : a0 < 18446744073709551616) (hr : bits .and .u64 a0 9223372036854775807 = r) (h : nanB a0 = true ∨ (nanB a0 = false ∧ 4836865999795912704 < r)) (w : World) :
    Calls Try.prog 5 #[.int .u64 a0] w fun e w' => e = .returned (.bool true) ∧ Grown w w' := by
  rcases h with hn | ⟨hn, hl⟩
  all_goals
    go_enter Try.func5, Try.ntmps5
    go_wp2_with (go_at_call 6; refine (refNaN_c _ (by omega) (by omega) _).mono ?_; rw [hn]; rintro e w' ⟨rfl, rfl⟩)
    go_ret
    exact ⟨rfl, Grown.refl _⟩
set_option maxHeartbeats 4000000 in
theorem softFloors_core (a0 r f q g sm t : Int) (eq : Bool) (h0 : 0 ≤ a0) (h0' : a0 < 18446744073709551616) (hn : nanB a0 = false) (w : World)
    (hr : bits .and .u64 a0 9223372036854775807 = r) (hl : ¬ 4836865999795912704 < r) (q1 : -4503599627370496 ≤ q) (q2 : q ≤ 4503599627370496)
    (c1 : ∀ w, Calls Try.prog 12 #[.int .u64 a0] w fun e w' => e = .returned (.int .u64 f) ∧ ∃ m, w' = w.drewN m)
    (c2 : ∀ w, Calls Try.prog 19 #[.int .u64 f] w fun e w' => e = .returned (.tuple #[.int .i64 q, .int .i64 0]) ∧ w' = w)
    (c3 : ∀ w, Calls Try.prog 20 #[.int .i64 q] w fun e w' => e = .returned (.int .u64 g) ∧ w' = w)
    (c4 : ∀ w, Calls Try.prog 17 #[.int .u64 g, .int .u64 f] w fun e w' => e = .returned (.bool true) ∧ w' = w)
    (c5 : ∀ w, Calls Try.prog 9 #[.int .u64 f, .int .u64 a0] w fun e w' => e = .returned (.bool true) ∧ w' = w)
    (c6 : ∀ w, Calls Try.prog 8 #[.int .u64 f, .int .u64 4607182418800017408] w fun e w' => e = .returned (.int .u64 sm) ∧ ∃ m, w' = w.drewN m)
    (c7 : ∀ w, Calls Try.prog 21 #[.int .u64 a0, .int .u64 sm] w fun e w' => e = .returned (.bool true) ∧ w' = w)
    (c8 : ∀ w, Calls Try.prog 19 #[.int .u64 a0] w fun e w' => e = .returned (.tuple #[.int .i64 t, .int .i64 0]) ∧ w' = w)
    (c9 : ∀ w, Calls Try.prog 17 #[.int .u64 f, .int .u64 a0] w fun e w' => e = .returned (.bool eq) ∧ w' = w)
    (hC : (a0 < 9223372036854775808 ∧ t = q) ∨ (9223372036854775808 ≤ a0 ∧ eq = true ∧ t = q) ∨ (9223372036854775808 ≤ a0 ∧ eq = false ∧ t = q + 1)) :
    Calls Try.prog 5 #[.int .u64 a0] w fun e w' => e = .returned (.bool true) ∧ Grown w w' := by
  rcases hC with ⟨s1, rfl⟩ | ⟨s1, rfl, rfl⟩ | ⟨s1, rfl, rfl⟩
  all_goals
    go_enter Try.func5, Try.ntmps5
    go_wp2_with (first | (go_at_call 6; refine (refNaN_c _ (by omega) (by omega) _).mono ?_; rw [hn]; rintro e w' ⟨rfl, rfl⟩) | (go_at_call 12; with_reducible refine (c1 _).mono ?_; rintro e w' ⟨rfl, m, rfl⟩) | (go_at_call 19; with_reducible refine (c2 _).mono ?_; rintro e w' ⟨rfl, rfl⟩) | (go_at_call 20; with_reducible refine (c3 _).mono ?_; rintro e w' ⟨rfl, rfl⟩) | (go_at_call 17; with_reducible refine (c4 _).mono ?_; rintro e w' ⟨rfl, rfl⟩) | (go_at_call 9; with_reducible refine (c5 _).mono ?_; rintro e w' ⟨rfl, rfl⟩) | (go_at_call 8; with_reducible refine (c6 _).mono ?_; rintro e w' ⟨rfl, m, rfl⟩) | (go_at_call 21; with_reducible refine (c7 _).mono ?_; rintro e w' ⟨rfl, rfl⟩) | (go_at_call 19; with_reducible refine (c8 _).mono ?_; rintro e w' ⟨rfl, rfl⟩) | (go_at_call 17; with_reducible refine (c9 _).mono ?_; rintro e w' ⟨rfl, rfl⟩) | (go_at_call 14; refine (awake_c _).mono ?_; rintro e w' ⟨rfl, m, rfl⟩))
    go_ret
    exact ⟨rfl, Grown.drewN (Grown.refl _) _⟩
theorem key_one : finB 4607182418800017408 = true ∧ keyI 4607182418800017408 = 1 * one1 := by
  refine ⟨by decide, ?_⟩
  unfold keyI
  rw [read_one]
  simp only [key, signed_v, Bool.false_eq_true, if_false]
  have e2 : 4503599627370496 * 2 ^ ((-52 : Int) + 1074).toNat = one1 := by
    rw [show (4503599627370496 : Nat) = 2 ^ 52 from by decide, ← Nat.pow_add, pow_one1 (by decide)]
  rw [e2]; omega
/-- a double of at most 2^51 is finite, and its exact number is so small -/
theorem small_key (a : Int) (h0 : 0 ≤ a) (h1 : a < 18446744073709551616) (hl : a % 9223372036854775808 ≤ 4836865999795912704) :
    finB a = true ∧ -2251799813685248 * (one1 : Int) ≤ keyI a ∧ keyI a ≤ 2251799813685248 * one1 ∧ (a < 9223372036854775808 → 0 ≤ keyI a) ∧ (9223372036854775808 ≤ a → keyI a ≤ 0) := by
  have hf : finB a = true := by simp only [finB, decide_eq_true_eq]; omega
  obtain ⟨s, m, p, e⟩ := fin_read a hf
  obtain ⟨m1, p1, p2, m2, hx⟩ := read_number (by omega) e
  have hb : m * 2 ^ (p + 1074).toNat ≤ 2251799813685248 * one1 := by
    have hp : p ≤ -2 ∨ (p = -1 ∧ m = 4503599627370496) := by cases s <;> simp at hx <;> omega
    rcases hp with hp | ⟨rfl, rfl⟩
    · have a1 : m * 2 ^ (p + 1074).toNat ≤ 2251799813685248 * 4 * 2 ^ (p + 1074).toNat := Nat.mul_le_mul_right _ (by omega)
      have a2 : 4 * 2 ^ (p + 1074).toNat ≤ one1 := by
        rw [← pow_one1 (k := (p + 1074).toNat + 2 + (1072 - (p + 1074).toNat)) (by omega), Nat.pow_add, Nat.pow_add, Nat.mul_comm 4]
        exact Nat.le_mul_of_pos_right _ (Nat.two_pow_pos _)
      have a3 : 2251799813685248 * (4 * 2 ^ (p + 1074).toNat) ≤ 2251799813685248 * one1 := Nat.mul_le_mul_left _ a2
      rw [← Nat.mul_assoc] at a3
      omega
    · have e1 : 4503599627370496 * 2 ^ ((-1 : Int) + 1074).toNat = 2251799813685248 * one1 := by
        rw [← pow_one1 (k := ((-1 : Int) + 1074).toNat + 1) (by decide), Nat.pow_succ]
        generalize 2 ^ ((-1 : Int) + 1074).toNat = y
        omega
      omega
  refine ⟨hf, ?_⟩
  unfold keyI
  rw [e]
  simp only [key, signed_v]
  have hb' : ((m * 2 ^ (p + 1074).toNat : Nat) : Int) ≤ 2251799813685248 * one1 := by
    have h := Int.ofNat_le.2 hb
    rw [Int.natCast_mul 2251799813685248] at h
    exact h
  have P := one1_int
  generalize m * 2 ^ (p + 1074).toNat = V at *
  generalize hX : (p + 1074).toNat * 4503599627370496 + m = X at hx
  have hX2 : X < 9223372036854775808 := by omega
  cases s
  · simp only [Bool.false_eq_true, if_false] at hx ⊢
    refine ⟨by omega, by omega, by omega, by omega⟩
  · simp only [if_true] at hx ⊢
    refine ⟨by omega, by omega, by omega, by omega⟩
theorem softFloors_walk (a0 : Int) (w0 : (Lit.int .u64 a0).wf = true) (w : World) :
    Calls Try.prog 5 #[.int .u64 a0] w fun e w' => e = .returned (.bool true) ∧ Grown w w' := by
  obtain ⟨h0, h0''⟩ := bounds_u64 w0
  have h0' : a0 < 18446744073709551616 := by omega
  have hr := low_eq a0 h0 h0'
  cases hn : nanB a0 with
  | true => exact softFloors_skip a0 _ h0 h0' hr (Or.inl hn) w
  | false =>
    by_cases hl : 4836865999795912704 < a0 % 9223372036854775808
    · exact softFloors_skip a0 _ h0 h0' hr (Or.inr ⟨hn, hl⟩) w
    · obtain ⟨hf, k1, k2, k3, k4⟩ := small_key a0 h0 h0' (by omega)
      obtain ⟨ff, -, q, q1, q2, q3⟩ := floor_key a0 h0 h0' hf
      have P := one1_int
      have nf : nanB (floorI a0) = false := fin_nan _ ff
      obtain ⟨r1, r2⟩ := floorI_range a0
      have b1 : q ≤ 2251799813685248 := Int.not_lt.1 (fun g => by have := Int.mul_lt_mul_of_pos_right g P; omega)
      have b2 : -2251799813685249 ≤ q := Int.not_lt.1 (fun g => by
        have : q + 1 < -2251799813685248 := by omega
        have := Int.mul_lt_mul_of_pos_right this P
        rw [Int.add_mul] at this
        omega)
      obtain ⟨t1, t2⟩ := trunc_whole (floorI a0) q r1 r2 ff q1 (by omega) (by omega)
      obtain ⟨g1, g2⟩ := fromI_key q (by omega)
      obtain ⟨s1, s2⟩ := fromI_range q
      have x4 := softEqual_c (fromI q) (floorI a0)
      rw [equalI_key _ _ s1 s2 r1 r2 (fromI_nan q) nf, g2, q1, decide_eq_true rfl] at x4
      have x5 := softLessEq_c (floorI a0) a0
      rw [lessEqI_key _ _ r1 r2 h0 h0' nf hn, q1, decide_eq_true q2] at x5
      obtain ⟨o1, o2⟩ := key_one
      obtain ⟨ad1, ad2⟩ := add_exact (floorI a0) 4607182418800017408 (q + 1) r2 (by decide) ff o1 (by rw [q1, o2, Int.add_mul]) (by omega)
      obtain ⟨ar1, ar2⟩ := opI_range .add (floorI a0) 4607182418800017408
      have x7 := softLess_c a0 (opI .add (floorI a0) 4607182418800017408)
      rw [lessI_key _ _ h0 h0' ar1 ar2 hn (fin_nan _ ad1), ad2, decide_eq_true (by rw [Int.add_mul]; omega)] at x7
      obtain ⟨u1, u2⟩ := trunc_key a0 h0' hf
      have v1 : -9223372036854775808 * (one1 : Int) ≤ keyI a0 := by
        have : -9223372036854775808 * (one1 : Int) ≤ -2251799813685248 * one1 := Int.mul_le_mul_of_nonneg_right (by omega) (by omega)
        omega
      have v2 : keyI a0 < 9223372036854775808 * one1 := by
        have : 2251799813685248 * (one1 : Int) < 9223372036854775808 * one1 := Int.mul_lt_mul_of_pos_right (by omega) P
        omega
      have tv := trunc_val a0 h0' hf v1 v2
      have tf : fitsB a0 = true := by rw [fits_key a0 h0 h0' hn]; simp only [decide_eq_true_eq]; exact ⟨v1, v2⟩
      refine softFloors_core a0 _ (floorI a0) q (fromI q) (opI .add (floorI a0) 4607182418800017408) (truncI a0) (equalI (floorI a0) a0) h0 h0' hn w hr (by omega) (by omega) (by omega) (softFloor_c a0 h0) (softTrunc_in _ _ t1 t2) (softFromInt_c q) x4 x5 (softAdd_c _ _) x7 (softTrunc_in _ _ tv tf) (softEqual_c _ _) ?_
      rw [equalI_key _ _ r1 r2 h0 h0' nf hn, q1]
      by_cases hs : a0 < 9223372036854775808
      · obtain ⟨z1, z2⟩ := u1 (k3 hs)
        exact Or.inl ⟨hs, quo_unique _ _ _ z1 z2 q2 q3⟩
      · obtain ⟨z1, z2⟩ := u2 (k4 (by omega))
        by_cases he : q * (one1 : Int) = keyI a0
        · refine Or.inr (Or.inl ⟨by omega, decide_eq_true he, ?_⟩)
          exact (quo_unique q (truncI a0) (truncI a0 * one1) (by omega) (by omega) (Int.le_refl _) (by omega)).symm
        · refine Or.inr (Or.inr ⟨by omega, decide_eq_false he, ?_⟩)
          have : q = truncI a0 - 1 := by
            by_cases hz : keyI a0 = truncI a0 * one1
            · exfalso
              have : q = truncI a0 := quo_unique q (truncI a0) (keyI a0) q2 q3 (by omega) (by omega)
              rw [this] at he
              omega
            · exact quo_unique q (truncI a0 - 1) (keyI a0) q2 q3 (by rw [Int.sub_mul]; omega) (by rw [Int.sub_mul]; omega)
          omega
end Go.Proofs.Ytignkihhhflelab.W
