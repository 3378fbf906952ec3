/- The walk of the statement WordTags: it returns true at every pattern. -/
import Derived.Test.YtjkabijejhmhkaaTxt
import Derived.OpenShut
import Derived.RowKit3
namespace Go.Proofs.Ytjkabijejhmhkaa.W
open Go.ChangeShapes Go.WideShapes Go.RowKit

theorem exp_eq (n : Int) (h0 : 0 ≤ n) (h1 : n < 18446744073709551616) : bits .and .u64 n 9218868437227405312 = n / 4503599627370496 % 2048 * 4503599627370496 := by
  rw [u64_and n _ h0 h1 (by decide) (by decide)]
  have e : (9218868437227405312 : Int).toNat = 2047 * 2 ^ 52 := by decide
  rw [e, and_shift, show (2047 : Nat) = 2 ^ 11 - 1 from by decide, Nat.and_two_pow_sub_one_eq_mod]
  omega
theorem frac_eq (n : Int) (h0 : 0 ≤ n) (h1 : n < 18446744073709551616) : bits .and .u64 n 4503599627370495 = n % 4503599627370496 := by
  rw [u64_and n _ h0 h1 (by decide) (by decide)]
  have e : (4503599627370495 : Int).toNat = 2 ^ 52 - 1 := by decide
  rw [e, Nat.and_two_pow_sub_one_eq_mod]
  omega
/-- what each class says of a pattern, as numbers -/
theorem cls_is1 (n : Int) (h : cls n = 1) : n % 9223372036854775808 ≤ 9218868437227405312 ∨ n = 9221120237041090560 := by
  unfold cls at h
  split at h
  · rename_i c
    rcases c with c | c
    · left; unfold nanB at c; simp at c; exact c
    · right; exact c
  · exfalso; revert h; repeat' (first | split | simp)
theorem cls_is3 (n : Int) (h : cls n = 3) : n = 18444492273895866368 := by
  unfold cls at h
  (repeat' split at h) <;> first | assumption | (exfalso; revert h; decide)
theorem cls_is4 (n : Int) (h : cls n = 4) : n = 18444492273895866369 ∨ n = 18444492273895866370 := by
  unfold cls at h
  (repeat' split at h) <;> first | assumption | (exfalso; revert h; decide)
theorem cls_is2 (n : Int) (h : cls n = 2) : 18444773748872577024 ≤ n ∧ n < 18445055223849287680 := by
  unfold cls at h
  (repeat' split at h) <;> first | (exfalso; revert h; decide) | omega
theorem cls_is5 (n : Int) (h : cls n = 5) : 18445055223849287680 ≤ n ∧ n < 18445336698825998336 ∧ txtOk (n % 281474976710656) = true := by
  unfold cls at h
  (repeat' split at h) <;> first | (exfalso; revert h; decide) | exact ⟨by omega, by omega, by assumption⟩
theorem cls_is6 (n : Int) (h : cls n = 6) : 18445336698825998336 ≤ n ∧ n < 18445618173802708992 := by
  unfold cls at h
  (repeat' split at h) <;> first | (exfalso; revert h; decide) | omega
theorem cls_is7 (n : Int) (h : cls n = 7) : 9218868437227405312 < n % 9223372036854775808 := by
  unfold cls at h
  split at h
  · exfalso; revert h; decide
  · rename_i c
    have : ¬ nanB n = false := fun x => c (.inl x)
    simp [nanB] at this
    exact this

set_option maxHeartbeats 1000000 in
theorem wordTags_walk (a0 : Int) (w0 : (Lit.int .u64 a0).wf = true) (w : World) :
    Calls Try.prog 7 #[.int .u64 a0] w fun e w' => e = .returned (.bool true) ∧ Grown w w' := by
  obtain ⟨h0, h1'⟩ := bounds_u64 w0
  have h1 : a0 < 18446744073709551616 := by omega
  clear h1' w0
  have x1 := exp_eq a0 h0 h1
  have x2 := frac_eq a0 h0 h1
  have x3 := tag_eq a0 h0 h1
  rcases cls_range a0 with c | c | c | c | c | c | c
  · have H := hid (cls_is1 a0 c)
    by_cases y1 : a0 / 4503599627370496 % 2048 * 4503599627370496 = 9218868437227405312
    · have z1 : (a0 / 4503599627370496 % 2048 * 4503599627370496 != 9218868437227405312) = false := by simpa using y1
      by_cases y2 : a0 % 4503599627370496 = 0
      · have z2 : (a0 % 4503599627370496 == 0) = true := by simpa using y2
        clear y1 y2
        go_enter Try.func7, Try.ntmps7
        go_wp2_with (first | (go_at_call 9; refine (class_c _ (by omega) (by omega) _).mono ?_; rintro e w' ⟨rfl, rfl⟩) | (go_at_call 19; refine (awake_c _).mono ?_; rintro e w' ⟨rfl, rfl⟩))
        go_ret
        exact ⟨rfl, Grown.refl _⟩
      · have z2 : (a0 % 4503599627370496 == 0) = false := by simpa using y2
        have z3 : a0 = 9221120237041090560 := by rcases H.out with h | h <;> omega
        subst z3
        clear y1 y2
        go_enter Try.func7, Try.ntmps7
        go_wp2_with (first | (go_at_call 9; refine (class_c _ (by omega) (by omega) _).mono ?_; rintro e w' ⟨rfl, rfl⟩) | (go_at_call 19; refine (awake_c _).mono ?_; rintro e w' ⟨rfl, rfl⟩))
        go_ret
        exact ⟨rfl, Grown.refl _⟩
    · have z1 : (a0 / 4503599627370496 % 2048 * 4503599627370496 != 9218868437227405312) = true := by simpa using y1
      clear y1
      go_enter Try.func7, Try.ntmps7
      go_wp2_with (first | (go_at_call 9; refine (class_c _ (by omega) (by omega) _).mono ?_; rintro e w' ⟨rfl, rfl⟩) | (go_at_call 19; refine (awake_c _).mono ?_; rintro e w' ⟨rfl, rfl⟩))
      go_ret
      exact ⟨rfl, Grown.refl _⟩
  · have H := cls_is2 a0 c
    have z1 : (a0 / 2251799813685248 == 8191) = true := by simp; omega
    have z2 : a0 / 281474976710656 % 8 = 1 := by omega
    clear H
    go_enter Try.func7, Try.ntmps7
    go_wp2_with (first | (go_at_call 9; refine (class_c _ (by omega) (by omega) _).mono ?_; rintro e w' ⟨rfl, rfl⟩) | (go_at_call 19; refine (awake_c _).mono ?_; rintro e w' ⟨rfl, rfl⟩))
    go_ret
    exact ⟨rfl, Grown.refl _⟩
  · have H := cls_is3 a0 c
    have z1 : (a0 / 2251799813685248 == 8191) = true := by simp; omega
    have z2 : a0 / 281474976710656 % 8 = 0 := by omega
    clear H
    go_enter Try.func7, Try.ntmps7
    go_wp2_with (first | (go_at_call 9; refine (class_c _ (by omega) (by omega) _).mono ?_; rintro e w' ⟨rfl, rfl⟩) | (go_at_call 19; refine (awake_c _).mono ?_; rintro e w' ⟨rfl, rfl⟩))
    go_ret
    exact ⟨rfl, Grown.refl _⟩
  · have H := cls_is4 a0 c
    have z1 : (a0 / 2251799813685248 == 8191) = true := by simp; omega
    have z2 : a0 / 281474976710656 % 8 = 0 := by omega
    clear H
    go_enter Try.func7, Try.ntmps7
    go_wp2_with (first | (go_at_call 9; refine (class_c _ (by omega) (by omega) _).mono ?_; rintro e w' ⟨rfl, rfl⟩) | (go_at_call 19; refine (awake_c _).mono ?_; rintro e w' ⟨rfl, rfl⟩))
    go_ret
    exact ⟨rfl, Grown.refl _⟩
  · have H := cls_is5 a0 c
    have z1 : (a0 / 2251799813685248 == 8191) = true := by simp; omega
    have z2 : a0 / 281474976710656 % 8 = 2 := by omega
    clear H
    go_enter Try.func7, Try.ntmps7
    go_wp2_with (first | (go_at_call 9; refine (class_c _ (by omega) (by omega) _).mono ?_; rintro e w' ⟨rfl, rfl⟩) | (go_at_call 19; refine (awake_c _).mono ?_; rintro e w' ⟨rfl, rfl⟩))
    go_ret
    exact ⟨rfl, Grown.refl _⟩
  · have H := cls_is6 a0 c
    have z1 : (a0 / 2251799813685248 == 8191) = true := by simp; omega
    have z2 : a0 / 281474976710656 % 8 = 3 := by omega
    clear H
    go_enter Try.func7, Try.ntmps7
    go_wp2_with (first | (go_at_call 9; refine (class_c _ (by omega) (by omega) _).mono ?_; rintro e w' ⟨rfl, rfl⟩) | (go_at_call 19; refine (awake_c _).mono ?_; rintro e w' ⟨rfl, rfl⟩))
    go_ret
    exact ⟨rfl, Grown.refl _⟩
  · have H := cls_is7 a0 c
    have z1 : a0 / 4503599627370496 % 2048 = 2047 := by omega
    have z2 : (a0 % 4503599627370496 != 0) = true := by simp; omega
    clear H
    go_enter Try.func7, Try.ntmps7
    go_wp2_with (first | (go_at_call 9; refine (class_c _ (by omega) (by omega) _).mono ?_; rintro e w' ⟨rfl, rfl⟩) | (go_at_call 19; refine (awake_c _).mono ?_; rintro e w' ⟨rfl, rfl⟩))
    go_ret
    exact ⟨rfl, Grown.refl _⟩
end Go.Proofs.Ytjkabijejhmhkaa.W
