/- The contract of the reference's class function: it returns the class 'cls' of every pattern; the world has at most drawn. -/
import Derived.Test.YtmpbllaijgekmaaCls
namespace Go.Proofs.Ytmpbllaijgekmaa.W
open Go.ChangeShapes Go.WideShapes Go.RowKit

theorem txt_lt (l k : Int) (hk : k ≤ 5) (hl : l / 1099511627776 = k) (c : l % 1099511627776 < 2 ^ (8 * k).toNat) : textCls l = 5 := by
  unfold textCls txtOk
  rw [hl]
  simp [hk, c]
theorem txt_ge (l k : Int) (hl : l / 1099511627776 = k) (c : ¬ l % 1099511627776 < 2 ^ (8 * k).toNat) : textCls l = 7 := by
  unfold textCls txtOk
  rw [hl]
  simp [c]
set_option maxHeartbeats 1000000 in
theorem refClass_c (n : Int) (h0 : 0 ≤ n) (h1 : n < 18446744073709551616) (w : World) :
    Calls Try.prog 21 #[.int .u64 n] w fun e w' => e = .returned (.int .i64 (cls n)) ∧ ∃ m, w' = w.drewN m := by
  by_cases c0 : nanB n = false
  · have H := hid (cls_dbl n c0)
    go_enter Try.func21, Try.ntmps21
    go_wp2_with (go_at_call 24; refine (refNaN_c _ (by omega) (by omega) _).mono ?_; rintro e w' ⟨rfl, rfl⟩)
    go_ret
    exact ⟨ret_int H.out.symm, 0, rfl⟩
  have c0' : nanB n = true := by simpa using c0
  clear c0
  by_cases c1 : n = 9221120237041090560
  · have H := hid cls_canon
    subst c1
    go_enter Try.func21, Try.ntmps21
    go_wp2_with (go_at_call 24; refine (refNaN_c _ (by omega) (by omega) _).mono ?_; rintro e w' ⟨rfl, rfl⟩)
    go_ret
    exact ⟨ret_int H.out.symm, 0, rfl⟩
  have d1 : (n == 9221120237041090560) = false := by simpa using c1
  by_cases c2 : n < 18444492273895866368
  · have H := hid (cls_low n c0' c1 c2)
    clear c1
    go_enter Try.func21, Try.ntmps21
    go_wp2_with (go_at_call 24; refine (refNaN_c _ (by omega) (by omega) _).mono ?_; rintro e w' ⟨rfl, rfl⟩)
    go_ret
    exact ⟨ret_int H.out.symm, 0, rfl⟩
  have c2' : 18444492273895866368 ≤ n := by omega
  clear c1 c2
  obtain ⟨t, ht⟩ : ∃ t, (n - 18444492273895866368) / 281474976710656 = t := ⟨_, rfl⟩
  obtain ⟨l, hl⟩ : ∃ l, n % 281474976710656 = l := ⟨_, rfl⟩
  have t0 : 0 ≤ t := by omega
  have t8 : t < 8 := by omega
  have l0 : 0 ≤ l := by omega
  have l1 : l < 281474976710656 := by omega
  have ht' : n / 281474976710656 % 8 = t := by omega
  by_cases e0 : t = 0
  · subst e0
    have H0 := cls_t0 n h1 c2' ht'
    rw [hl] at H0
    have H := hid H0
    clear H0 ht'
    by_cases f0 : l = 0
    · subst f0
      go_enter Try.func21, Try.ntmps21
      go_wp2_with (go_at_call 24; refine (refNaN_c _ (by omega) (by omega) _).mono ?_; rintro e w' ⟨rfl, rfl⟩)
      go_ret
      exact ⟨ret_int (by rw [H.out]; rfl), 0, rfl⟩
    · have g0 : (l == 0) = false := by simpa using f0
      by_cases f2 : l ≤ 2
      · have H2 := hid (show plainCls l = 4 by simp [plainCls, f0]; omega)
        clear f0
        go_enter Try.func21, Try.ntmps21
        go_wp2_with (go_at_call 24; refine (refNaN_c _ (by omega) (by omega) _).mono ?_; rintro e w' ⟨rfl, rfl⟩)
        go_ret
        exact ⟨ret_int (by rw [H.out, H2.out]), 0, rfl⟩
      · have H2 := hid (show plainCls l = 7 by simp [plainCls, f0]; omega)
        clear f0
        go_enter Try.func21, Try.ntmps21
        go_wp2_with (go_at_call 24; refine (refNaN_c _ (by omega) (by omega) _).mono ?_; rintro e w' ⟨rfl, rfl⟩)
        go_ret
        exact ⟨ret_int (by rw [H.out, H2.out]), 0, rfl⟩
  have e0' : (t == 0) = false := by simpa using e0
  by_cases e1 : t = 1
  · subst e1
    have H := hid (cls_t1 n h1 c2' ht')
    clear ht' e0
    go_enter Try.func21, Try.ntmps21
    go_wp2_with (go_at_call 24; refine (refNaN_c _ (by omega) (by omega) _).mono ?_; rintro e w' ⟨rfl, rfl⟩)
    go_ret
    exact ⟨ret_int H.out.symm, 0, rfl⟩
  have e1' : (t == 1) = false := by simpa using e1
  by_cases e2 : t = 2
  · subst e2
    have H0 := cls_t2 n h1 c2' ht'
    rw [hl] at H0
    have H := hid H0
    clear H0 ht' e0 e1
    obtain ⟨k, hk⟩ : ∃ k, l / 1099511627776 = k := ⟨_, rfl⟩
    obtain ⟨r, hr⟩ : ∃ r, l % 1099511627776 = r := ⟨_, rfl⟩
    have k0 : 0 ≤ k := by omega
    have k1 : k < 256 := by omega
    have r0 : 0 ≤ r := by omega
    by_cases c : 5 < k
    · have H2 := hid (txtOk_big l (by omega))
      have hd : decide (k ≤ 5) = false := by simpa using c
      go_enter Try.func21, Try.ntmps21
      go_wp2_with (first | (go_at_call 24; refine (refNaN_c _ (by omega) (by omega) _).mono ?_; rintro e w' ⟨rfl, rfl⟩) | (go_at_call 25; refine (power_i _ (by omega) (by omega) _).mono ?_; rintro e w' ⟨rfl, rfl⟩))
      go_quiet ((go_at_call 25; exact Calls.quiet_of_same (power_i _ (by omega) (by omega) _)))
      go_wp2
      go_ret
      exact ⟨ret_int (by rw [H.out, H2.out]), _, rfl⟩
    · have hd : decide (k ≤ 5) = true := by simp; omega
      by_cases d : r < 2 ^ (8 * k).toNat
      · have H2 := hid (txt_lt l k (by omega) hk (by rw [hr]; exact d))
        go_enter Try.func21, Try.ntmps21
        go_wp2_with (first | (go_at_call 24; refine (refNaN_c _ (by omega) (by omega) _).mono ?_; rintro e w' ⟨rfl, rfl⟩) | (go_at_call 25; refine (power_i _ (by omega) (by omega) _).mono ?_; rintro e w' ⟨rfl, rfl⟩))
        go_quiet ((go_at_call 25; exact Calls.quiet_of_same (power_i _ (by omega) (by omega) _)))
        go_wp2
        go_ret
        exact ⟨ret_int (by rw [H.out, H2.out]), _, rfl⟩
      · have H2 := hid (txt_ge l k hk (by rw [hr]; exact d))
        go_enter Try.func21, Try.ntmps21
        go_wp2_with (first | (go_at_call 24; refine (refNaN_c _ (by omega) (by omega) _).mono ?_; rintro e w' ⟨rfl, rfl⟩) | (go_at_call 25; refine (power_i _ (by omega) (by omega) _).mono ?_; rintro e w' ⟨rfl, rfl⟩))
        go_quiet ((go_at_call 25; exact Calls.quiet_of_same (power_i _ (by omega) (by omega) _)))
        go_wp2
        go_ret
        exact ⟨ret_int (by rw [H.out, H2.out]), _, rfl⟩
  have e2' : (t == 2) = false := by simpa using e2
  by_cases e3 : t = 3
  · subst e3
    have H := hid (cls_t3 n h1 c2' ht')
    clear ht' e0 e1 e2
    go_enter Try.func21, Try.ntmps21
    go_wp2_with (go_at_call 24; refine (refNaN_c _ (by omega) (by omega) _).mono ?_; rintro e w' ⟨rfl, rfl⟩)
    go_ret
    exact ⟨ret_int H.out.symm, 0, rfl⟩
  · have H := hid (cls_t4 n h1 c2' (by omega))
    have e3' : (t == 3) = false := by simpa using e3
    clear ht' e0 e1 e2 e3
    go_enter Try.func21, Try.ntmps21
    go_wp2_with (go_at_call 24; refine (refNaN_c _ (by omega) (by omega) _).mono ?_; rintro e w' ⟨rfl, rfl⟩)
    go_ret
    exact ⟨ret_int H.out.symm, 0, rfl⟩
end Go.Proofs.Ytmpbllaijgekmaa.W
