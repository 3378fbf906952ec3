/- Contracts of the class functions of package word and of its reference: each returns the class 'cls' of every pattern. -/
import Derived.Test.YtalcfblknoojpaaLeaf
import Derived.Deep.RegionWith
namespace Go.Proofs.Ytalcfblknoojpaa.W
open Go.ChangeShapes Go.WideShapes Go.RowKit

theorem cls_dbl (n : Int) (h : nanB n = false) : cls n = 1 := by simp [cls, h]
theorem cls_canon : cls 9221120237041090560 = 1 := by decide
theorem cls_low (n : Int) (h : nanB n = true) (hc : ¬ n = 9221120237041090560) (hl : n < 18444492273895866368) : cls n = 7 := by simp [cls, h, hc, hl]
theorem nan_hi (n : Int) (h1 : n < 18446744073709551616) (h : 18444492273895866368 ≤ n) : nanB n = true := by
  unfold nanB; rw [decide_eq_true_eq]; omega
theorem cls_t0 (n : Int) (h1 : n < 18446744073709551616) (h : 18444492273895866368 ≤ n) (ht : n / 281474976710656 % 8 = 0) : cls n = plainCls (n % 281474976710656) := by
  have hn := nan_hi n h1 h
  unfold cls plainCls
  rw [hn]
  simp only [Bool.true_eq_false, false_or]
  repeat' split
  all_goals first | rfl | (exfalso; omega)
theorem cls_t1 (n : Int) (h1 : n < 18446744073709551616) (h : 18444492273895866368 ≤ n) (ht : n / 281474976710656 % 8 = 1) : cls n = 2 := by
  have hn := nan_hi n h1 h
  unfold cls
  rw [hn]
  simp only [Bool.true_eq_false, false_or]
  repeat' split
  all_goals first | rfl | (exfalso; omega)
theorem cls_t2 (n : Int) (h1 : n < 18446744073709551616) (h : 18444492273895866368 ≤ n) (ht : n / 281474976710656 % 8 = 2) : cls n = textCls (n % 281474976710656) := by
  have hn := nan_hi n h1 h
  unfold cls textCls
  rw [hn]
  simp only [Bool.true_eq_false, false_or]
  rw [if_neg (by omega), if_neg (by omega), if_neg (by omega), if_neg (by omega), if_neg (by omega), if_neg (by omega), if_pos (by omega)]
theorem cls_t3 (n : Int) (h1 : n < 18446744073709551616) (h : 18444492273895866368 ≤ n) (ht : n / 281474976710656 % 8 = 3) : cls n = 6 := by
  have hn := nan_hi n h1 h
  unfold cls
  rw [hn]
  simp only [Bool.true_eq_false, false_or]
  repeat' split
  all_goals first | rfl | (exfalso; omega)
theorem cls_t4 (n : Int) (h1 : n < 18446744073709551616) (h : 18444492273895866368 ≤ n) (ht : 4 ≤ n / 281474976710656 % 8) : cls n = 7 := by
  have hn := nan_hi n h1 h
  unfold cls
  rw [hn]
  simp only [Bool.true_eq_false, false_or]
  repeat' split
  all_goals first | rfl | (exfalso; omega)

theorem txtOk_big (l : Int) (h : 5 < l / 1099511627776) : textCls l = 7 := by
  unfold textCls txtOk
  rw [if_neg]
  simp only [decide_eq_true_eq]
  omega
theorem txtOk_room (l k : Int) (hk : k ≤ 5) (hl : l / 1099511627776 = k) :
    textCls l = if (l % 1099511627776 / 2 ^ (8 * k).toNat != 0) = true then 7 else 5 := by
  unfold textCls txtOk
  rw [hl]
  have hm : 0 ≤ l % 1099511627776 := by omega
  generalize l % 1099511627776 = r at *
  have hp : (0 : Int) < 2 ^ (8 * k).toNat := Int.pow_pos (by decide)
  by_cases c : r < 2 ^ (8 * k).toNat
  · rw [Int.ediv_eq_zero_of_lt hm c]
    simp [hk, c]
  · have : r / 2 ^ (8 * k).toNat ≠ 0 := by
      intro e
      have := Int.lt_ediv_add_one_mul_self r hp
      rw [e] at this
      omega
    simp [c, this]

set_option maxHeartbeats 400000 in
theorem classOfText_c (l : Int) (h0 : 0 ≤ l) (h1 : l < 281474976710656) (w : World) :
    Calls Try.prog 26 #[.int .u64 l] w fun e w' => e = .returned (.int .i64 (textCls l)) ∧ w' = w := by
  by_cases c : 5 < l / 1099511627776
  · have H := hid (txtOk_big l c)
    go_enter Try.func26, Try.ntmps26
    go_wp2_with (go_at_call 27; refine (split_c _ (by omega) (by omega) _).mono ?_; rintro e w' ⟨rfl, rfl⟩)
    go_ret
    exact ⟨ret_int H.out.symm, rfl⟩
  · obtain ⟨k, hk⟩ : ∃ k, l / 1099511627776 = k := ⟨_, rfl⟩
    have k0 : 0 ≤ k := by omega
    have k5 : k ≤ 5 := by omega
    have H := hid (txtOk_room l k k5 hk)
    have hm : 0 ≤ l % 1099511627776 := by omega
    go_enter Try.func26, Try.ntmps26
    go_wp2_with (go_at_call 27; refine (split_c _ (by omega) (by omega) _).mono ?_; rintro e w' ⟨rfl, rfl⟩)
    all_goals go_ret
    · rename_i hx
      exact ⟨ret_int (by rw [H.out, if_pos (by rcases hx with h | h; omega; exact h)]), rfl⟩
    · rename_i hx
      exact ⟨ret_int (by rw [H.out, if_neg (by rw [hx.2]; decide)]), rfl⟩

set_option maxHeartbeats 400000 in
theorem class_c (n : Int) (h0 : 0 ≤ n) (h1 : n < 18446744073709551616) (w : World) :
    Calls Try.prog 20 #[.int .u64 n] w fun e w' => e = .returned (.int .i64 (cls n)) ∧ w' = w := by
  by_cases c0 : nanB n = false
  · have H := hid (cls_dbl n c0)
    go_enter Try.func20, Try.ntmps20
    go_wp2_with (go_at_call 21; refine (isNaN_c _ (by omega) (by omega) _).mono ?_; rintro e w' ⟨rfl, rfl⟩)
    go_ret
    exact ⟨ret_int H.out.symm, rfl⟩
  have c0' : nanB n = true := by simpa using c0
  clear c0
  by_cases c1 : n = 9221120237041090560
  · have H := hid cls_canon
    subst c1
    go_enter Try.func20, Try.ntmps20
    go_wp2_with (go_at_call 21; refine (isNaN_c _ (by omega) (by omega) _).mono ?_; rintro e w' ⟨rfl, rfl⟩)
    go_ret
    exact ⟨ret_int H.out.symm, rfl⟩
  have d1 : (n == 9221120237041090560) = false := by simpa using c1
  by_cases c2 : n < 18444492273895866368
  · have H := hid (cls_low n c0' c1 c2)
    have d2 : decide (18444492273895866368 ≤ n) = false := by simp; omega
    clear c1
    go_enter Try.func20, Try.ntmps20
    go_wp2_with (first | (go_at_call 21; refine (isNaN_c _ (by omega) (by omega) _).mono ?_; rintro e w' ⟨rfl, rfl⟩) | (go_at_call 22; refine (isTagged_c _ (by omega) (by omega) _).mono ?_; rintro e w' ⟨rfl, rfl⟩))
    go_ret
    exact ⟨ret_int H.out.symm, rfl⟩
  have c2' : 18444492273895866368 ≤ n := by omega
  have d2 : decide (18444492273895866368 ≤ n) = true := by simp; omega
  clear c1 c2
  obtain ⟨t, ht⟩ : ∃ t, n / 281474976710656 % 8 = t := ⟨_, rfl⟩
  have t0 : 0 ≤ t := by omega
  have t8 : t < 8 := by omega
  have hload : 0 ≤ n % 281474976710656 := by omega
  have hload' : n % 281474976710656 < 281474976710656 := by omega
  by_cases e0 : t = 0
  · subst e0
    have H := hid (cls_t0 n h1 c2' ht)
    go_enter Try.func20, Try.ntmps20
    go_wp2_with (first | (go_at_call 21; refine (isNaN_c _ (by omega) (by omega) _).mono ?_; rintro e w' ⟨rfl, rfl⟩) | (go_at_call 22; refine (isTagged_c _ (by omega) (by omega) _).mono ?_; rintro e w' ⟨rfl, rfl⟩) | (go_at_call 23; refine (tagOf_c _ (by omega) (by omega) _).mono ?_; rintro e w' ⟨rfl, rfl⟩) | (go_at_call 25; refine (loadOf_c _ (by omega) (by omega) _).mono ?_; rintro e w' ⟨rfl, rfl⟩) | (go_at_call 24; refine (plain_c _ _).mono ?_; rintro e w' ⟨rfl, rfl⟩))
    go_ret
    exact ⟨ret_int H.out.symm, rfl⟩
  by_cases e1 : t = 1
  · subst e1
    have H := hid (cls_t1 n h1 c2' ht)
    go_enter Try.func20, Try.ntmps20
    go_wp2_with (first | (go_at_call 21; refine (isNaN_c _ (by omega) (by omega) _).mono ?_; rintro e w' ⟨rfl, rfl⟩) | (go_at_call 22; refine (isTagged_c _ (by omega) (by omega) _).mono ?_; rintro e w' ⟨rfl, rfl⟩) | (go_at_call 23; refine (tagOf_c _ (by omega) (by omega) _).mono ?_; rintro e w' ⟨rfl, rfl⟩))
    go_ret
    exact ⟨ret_int H.out.symm, rfl⟩
  by_cases e2 : t = 2
  · subst e2
    have H := hid (cls_t2 n h1 c2' ht)
    go_enter Try.func20, Try.ntmps20
    go_wp2_with (first | (go_at_call 21; refine (isNaN_c _ (by omega) (by omega) _).mono ?_; rintro e w' ⟨rfl, rfl⟩) | (go_at_call 22; refine (isTagged_c _ (by omega) (by omega) _).mono ?_; rintro e w' ⟨rfl, rfl⟩) | (go_at_call 23; refine (tagOf_c _ (by omega) (by omega) _).mono ?_; rintro e w' ⟨rfl, rfl⟩) | (go_at_call 25; refine (loadOf_c _ (by omega) (by omega) _).mono ?_; rintro e w' ⟨rfl, rfl⟩) | (go_at_call 26; refine (classOfText_c _ (by omega) (by omega) _).mono ?_; rintro e w' ⟨rfl, rfl⟩))
    go_ret
    exact ⟨ret_int H.out.symm, rfl⟩
  by_cases e3 : t = 3
  · subst e3
    have H := hid (cls_t3 n h1 c2' ht)
    go_enter Try.func20, Try.ntmps20
    go_wp2_with (first | (go_at_call 21; refine (isNaN_c _ (by omega) (by omega) _).mono ?_; rintro e w' ⟨rfl, rfl⟩) | (go_at_call 22; refine (isTagged_c _ (by omega) (by omega) _).mono ?_; rintro e w' ⟨rfl, rfl⟩) | (go_at_call 23; refine (tagOf_c _ (by omega) (by omega) _).mono ?_; rintro e w' ⟨rfl, rfl⟩))
    go_ret
    exact ⟨ret_int H.out.symm, rfl⟩
  · have H := hid (cls_t4 n h1 c2' (by omega))
    have f0 : (t == 0) = false := by simpa using e0
    have f1 : (t == 1) = false := by simpa using e1
    have f2 : (t == 2) = false := by simpa using e2
    have f3 : (t == 3) = false := by simpa using e3
    clear e0 e1 e2 e3
    go_enter Try.func20, Try.ntmps20
    go_wp2_with (first | (go_at_call 21; refine (isNaN_c _ (by omega) (by omega) _).mono ?_; rintro e w' ⟨rfl, rfl⟩) | (go_at_call 22; refine (isTagged_c _ (by omega) (by omega) _).mono ?_; rintro e w' ⟨rfl, rfl⟩) | (go_at_call 23; refine (tagOf_c _ (by omega) (by omega) _).mono ?_; rintro e w' ⟨rfl, rfl⟩))
    go_ret
    exact ⟨ret_int H.out.symm, rfl⟩
end Go.Proofs.Ytalcfblknoojpaa.W
