import Derived.Test.YtgmimmdojkoppaaGreatDoorBase11
import Derived.Deep.RegionWith
import Derived.Test.YtgmimmdojkoppaaGreatDoorBase1
/- Contracts of the class functions of package word and of its reference: each returns the class 'cls' of every pattern. -/
namespace Go.Proofs.YtgmimmdojkoppaaGreatDoor.W
open Go.ChangeShapes Go.WideShapes Go.RowKit

theorem cls_dbl (n : Int) (h : nanB n = false) : cls n = 1 := by simp [cls, h]
theorem cls_canon : cls 9221120237041090560 = 1 := by decide
theorem cls_low (n : Int) (h : nanB n = true) (hc : ¬ n = 9221120237041090560) (hl : n < 18444492273895866368) : cls n = 7 := by simp [cls, h, hc, hl]
theorem nan_hi (n : Int) (h1 : n < 18446744073709551616) (h : 18444492273895866368 ≤ n) : nanB n = true := by
  unfold nanB; rw [decide_eq_true_eq]; omega
theorem cls_t0 (n : Int) (h1 : n < 18446744073709551616) (h : 18444492273895866368 ≤ n) (ht : n / 281474976710656 % 8 = 0) : cls n = plainCls (n % 281474976710656) := by
  have hn := nan_hi n h1 h
  unfold cls plainCls
  rw [hn]
  simp only [Bool.true_eq_false, false_or]
  repeat' split
  all_goals first | rfl | (exfalso; omega)
theorem cls_t1 (n : Int) (h1 : n < 18446744073709551616) (h : 18444492273895866368 ≤ n) (ht : n / 281474976710656 % 8 = 1) : cls n = 2 := by
  have hn := nan_hi n h1 h
  unfold cls
  rw [hn]
  simp only [Bool.true_eq_false, false_or]
  repeat' split
  all_goals first | rfl | (exfalso; omega)
theorem cls_t2 (n : Int) (h1 : n < 18446744073709551616) (h : 18444492273895866368 ≤ n) (ht : n / 281474976710656 % 8 = 2) : cls n = textCls (n % 281474976710656) := by
  have hn := nan_hi n h1 h
  unfold cls textCls
  rw [hn]
  simp only [Bool.true_eq_false, false_or]
  rw [if_neg (by omega), if_neg (by omega), if_neg (by omega), if_neg (by omega), if_neg (by omega), if_neg (by omega), if_pos (by omega)]
theorem cls_t3 (n : Int) (h1 : n < 18446744073709551616) (h : 18444492273895866368 ≤ n) (ht : n / 281474976710656 % 8 = 3) : cls n = 6 := by
  have hn := nan_hi n h1 h
  unfold cls
  rw [hn]
  simp only [Bool.true_eq_false, false_or]
  repeat' split
  all_goals first | rfl | (exfalso; omega)
theorem cls_t4 (n : Int) (h1 : n < 18446744073709551616) (h : 18444492273895866368 ≤ n) (ht : 4 ≤ n / 281474976710656 % 8) : cls n = 7 := by
  have hn := nan_hi n h1 h
  unfold cls
  rw [hn]
  simp only [Bool.true_eq_false, false_or]
  repeat' split
  all_goals first | rfl | (exfalso; omega)

theorem txtOk_big (l : Int) (h : 5 < l / 1099511627776) : textCls l = 7 := by
  unfold textCls txtOk
  rw [if_neg]
  simp only [decide_eq_true_eq]
  omega
theorem txtOk_room (l k : Int) (hk : k ≤ 5) (hl : l / 1099511627776 = k) :
    textCls l = if (l % 1099511627776 / 2 ^ (8 * k).toNat != 0) = true then 7 else 5 := by
  unfold textCls txtOk
  rw [hl]
  have hm : 0 ≤ l % 1099511627776 := by omega
  generalize l % 1099511627776 = r at *
  have hp : (0 : Int) < 2 ^ (8 * k).toNat := Int.pow_pos (by decide)
  by_cases c : r < 2 ^ (8 * k).toNat
  · rw [Int.ediv_eq_zero_of_lt hm c]
    simp [hk, c]
  · have : r / 2 ^ (8 * k).toNat ≠ 0 := by
      intro e
      have := Int.lt_ediv_add_one_mul_self r hp
      rw [e] at this
      omega
    simp [c, this]

set_option maxHeartbeats 400000 in
theorem classOfText_c (l : Int) (h0 : 0 ≤ l) (h1 : l < 281474976710656) (w : World) :
    Calls Tryz.prog 89 #[.int .u64 l] w fun e w' => e = .returned (.int .i64 (textCls l)) ∧ w' = w := by
  by_cases c : 5 < l / 1099511627776
  · have H := hid (txtOk_big l c)
    go_enter Tryz.func89, Tryz.ntmps89
    go_wp2_with (go_at_call 91; refine (split_c _ (by omega) (by omega) _).mono ?_; rintro e w' ⟨rfl, rfl⟩)
    go_ret
    exact ⟨ret_int H.out.symm, rfl⟩
  · obtain ⟨k, hk⟩ : ∃ k, l / 1099511627776 = k := ⟨_, rfl⟩
    have k0 : 0 ≤ k := by omega
    have k5 : k ≤ 5 := by omega
    have H := hid (txtOk_room l k k5 hk)
    have hm : 0 ≤ l % 1099511627776 := by omega
    go_enter Tryz.func89, Tryz.ntmps89
    go_wp2_with (go_at_call 91; refine (split_c _ (by omega) (by omega) _).mono ?_; rintro e w' ⟨rfl, rfl⟩)
    all_goals go_ret
    · rename_i hx
      exact ⟨ret_int (by rw [H.out, if_pos (by rcases hx with h | h; omega; exact h)]), rfl⟩
    · rename_i hx
      exact ⟨ret_int (by rw [H.out, if_neg (by rw [hx.2]; decide)]), rfl⟩

set_option maxHeartbeats 400000 in
theorem class_c (n : Int) (h0 : 0 ≤ n) (h1 : n < 18446744073709551616) (w : World) :
    Calls Tryz.prog 45 #[.int .u64 n] w fun e w' => e = .returned (.int .i64 (cls n)) ∧ w' = w := by
  by_cases c0 : nanB n = false
  · have H := hid (cls_dbl n c0)
    go_enter Tryz.func45, Tryz.ntmps45
    go_wp2_with (go_at_call 64; refine (isNaN_c _ (by omega) (by omega) _).mono ?_; rintro e w' ⟨rfl, rfl⟩)
    go_ret
    exact ⟨ret_int H.out.symm, rfl⟩
  have c0' : nanB n = true := by simpa using c0
  clear c0
  by_cases c1 : n = 9221120237041090560
  · have H := hid cls_canon
    subst c1
    go_enter Tryz.func45, Tryz.ntmps45
    go_wp2_with (go_at_call 64; refine (isNaN_c _ (by omega) (by omega) _).mono ?_; rintro e w' ⟨rfl, rfl⟩)
    go_ret
    exact ⟨ret_int H.out.symm, rfl⟩
  have d1 : (n == 9221120237041090560) = false := by simpa using c1
  by_cases c2 : n < 18444492273895866368
  · have H := hid (cls_low n c0' c1 c2)
    have d2 : decide (18444492273895866368 ≤ n) = false := by simp; omega
    clear c1
    go_enter Tryz.func45, Tryz.ntmps45
    go_wp2_with (first | (go_at_call 64; refine (isNaN_c _ (by omega) (by omega) _).mono ?_; rintro e w' ⟨rfl, rfl⟩) | (go_at_call 85; refine (isTagged_c _ (by omega) (by omega) _).mono ?_; rintro e w' ⟨rfl, rfl⟩))
    go_ret
    exact ⟨ret_int H.out.symm, rfl⟩
  have c2' : 18444492273895866368 ≤ n := by omega
  have d2 : decide (18444492273895866368 ≤ n) = true := by simp; omega
  clear c1 c2
  obtain ⟨t, ht⟩ : ∃ t, n / 281474976710656 % 8 = t := ⟨_, rfl⟩
  have t0 : 0 ≤ t := by omega
  have t8 : t < 8 := by omega
  have hload : 0 ≤ n % 281474976710656 := by omega
  have hload' : n % 281474976710656 < 281474976710656 := by omega
  by_cases e0 : t = 0
  · subst e0
    have H := hid (cls_t0 n h1 c2' ht)
    go_enter Tryz.func45, Tryz.ntmps45
    go_wp2_with (first | (go_at_call 64; refine (isNaN_c _ (by omega) (by omega) _).mono ?_; rintro e w' ⟨rfl, rfl⟩) | (go_at_call 85; refine (isTagged_c _ (by omega) (by omega) _).mono ?_; rintro e w' ⟨rfl, rfl⟩) | (go_at_call 86; refine (tagOf_c _ (by omega) (by omega) _).mono ?_; rintro e w' ⟨rfl, rfl⟩) | (go_at_call 88; refine (loadOf_c _ (by omega) (by omega) _).mono ?_; rintro e w' ⟨rfl, rfl⟩) | (go_at_call 87; refine (plain_c _ _).mono ?_; rintro e w' ⟨rfl, rfl⟩))
    go_ret
    exact ⟨ret_int H.out.symm, rfl⟩
  by_cases e1 : t = 1
  · subst e1
    have H := hid (cls_t1 n h1 c2' ht)
    go_enter Tryz.func45, Tryz.ntmps45
    go_wp2_with (first | (go_at_call 64; refine (isNaN_c _ (by omega) (by omega) _).mono ?_; rintro e w' ⟨rfl, rfl⟩) | (go_at_call 85; refine (isTagged_c _ (by omega) (by omega) _).mono ?_; rintro e w' ⟨rfl, rfl⟩) | (go_at_call 86; refine (tagOf_c _ (by omega) (by omega) _).mono ?_; rintro e w' ⟨rfl, rfl⟩))
    go_ret
    exact ⟨ret_int H.out.symm, rfl⟩
  by_cases e2 : t = 2
  · subst e2
    have H := hid (cls_t2 n h1 c2' ht)
    go_enter Tryz.func45, Tryz.ntmps45
    go_wp2_with (first | (go_at_call 64; refine (isNaN_c _ (by omega) (by omega) _).mono ?_; rintro e w' ⟨rfl, rfl⟩) | (go_at_call 85; refine (isTagged_c _ (by omega) (by omega) _).mono ?_; rintro e w' ⟨rfl, rfl⟩) | (go_at_call 86; refine (tagOf_c _ (by omega) (by omega) _).mono ?_; rintro e w' ⟨rfl, rfl⟩) | (go_at_call 88; refine (loadOf_c _ (by omega) (by omega) _).mono ?_; rintro e w' ⟨rfl, rfl⟩) | (go_at_call 89; refine (classOfText_c _ (by omega) (by omega) _).mono ?_; rintro e w' ⟨rfl, rfl⟩))
    go_ret
    exact ⟨ret_int H.out.symm, rfl⟩
  by_cases e3 : t = 3
  · subst e3
    have H := hid (cls_t3 n h1 c2' ht)
    go_enter Tryz.func45, Tryz.ntmps45
    go_wp2_with (first | (go_at_call 64; refine (isNaN_c _ (by omega) (by omega) _).mono ?_; rintro e w' ⟨rfl, rfl⟩) | (go_at_call 85; refine (isTagged_c _ (by omega) (by omega) _).mono ?_; rintro e w' ⟨rfl, rfl⟩) | (go_at_call 86; refine (tagOf_c _ (by omega) (by omega) _).mono ?_; rintro e w' ⟨rfl, rfl⟩))
    go_ret
    exact ⟨ret_int H.out.symm, rfl⟩
  · have H := hid (cls_t4 n h1 c2' (by omega))
    have f0 : (t == 0) = false := by simpa using e0
    have f1 : (t == 1) = false := by simpa using e1
    have f2 : (t == 2) = false := by simpa using e2
    have f3 : (t == 3) = false := by simpa using e3
    clear e0 e1 e2 e3
    go_enter Tryz.func45, Tryz.ntmps45
    go_wp2_with (first | (go_at_call 64; refine (isNaN_c _ (by omega) (by omega) _).mono ?_; rintro e w' ⟨rfl, rfl⟩) | (go_at_call 85; refine (isTagged_c _ (by omega) (by omega) _).mono ?_; rintro e w' ⟨rfl, rfl⟩) | (go_at_call 86; refine (tagOf_c _ (by omega) (by omega) _).mono ?_; rintro e w' ⟨rfl, rfl⟩))
    go_ret
    exact ⟨ret_int H.out.symm, rfl⟩
end Go.Proofs.YtgmimmdojkoppaaGreatDoor.W
/- Contracts of the faces of package word (all but strings): what each returns, at every argument of its kind, with the world as it was. -/
namespace Go.Proofs.YtgmimmdojkoppaaGreatDoor.W
open Go.ChangeShapes Go.WideShapes Go.RowKit

set_option maxHeartbeats 400000 in
theorem fromFloat_c (n : Int) (h0 : 0 ≤ n) (h1 : n < 18446744073709551616) (w : World) :
    Calls Tryz.prog 26 #[.int .u64 n] w fun e w' => e = .returned (.int .u64 (fltW n)) ∧ w' = w := by
  cases c : nanB n
  · have H := hid (show fltW n = n by simp [fltW, c])
    go_enter Tryz.func26, Tryz.ntmps26
    go_wp2_with (go_at_call 64; refine (isNaN_c _ (by omega) (by omega) _).mono ?_; rintro e w' ⟨rfl, rfl⟩)
    go_ret
    exact ⟨ret_int H.out.symm, rfl⟩
  · have H := hid (show fltW n = 9221120237041090560 by simp [fltW, c])
    go_enter Tryz.func26, Tryz.ntmps26
    go_wp2_with (go_at_call 64; refine (isNaN_c _ (by omega) (by omega) _).mono ?_; rintro e w' ⟨rfl, rfl⟩)
    go_ret
    exact ⟨ret_int H.out.symm, rfl⟩
set_option maxHeartbeats 400000 in
theorem fromBool_c (b : Bool) (w : World) : Calls Tryz.prog 24 #[.bool b] w fun e w' => e = .returned (.int .u64 (boolW b)) ∧ w' = w := by
  cases b
  · go_enter Tryz.func24, Tryz.ntmps24
    go_wp2_with (go_at_call 61; refine (join_c _ _ (by omega) (by omega) (by omega) (by omega) _).mono ?_; rintro e w' ⟨rfl, rfl⟩)
    go_ret
    exact ⟨rfl, rfl⟩
  · go_enter Tryz.func24, Tryz.ntmps24
    go_wp2_with (go_at_call 61; refine (join_c _ _ (by omega) (by omega) (by omega) (by omega) _).mono ?_; rintro e w' ⟨rfl, rfl⟩)
    go_ret
    exact ⟨rfl, rfl⟩
set_option maxHeartbeats 400000 in
theorem fromHandle_c (h : Int) (h0 : 0 ≤ h) (w : World) :
    Calls Tryz.prog 180 #[.int .u64 h] w fun e w' => e = .returned (.tuple #[.int .u64 (hdlW h), .bool (decide (h < 281474976710656))]) ∧ w' = w := by
  by_cases c : h < 281474976710656
  · have H := hid (show hdlW h = 18445336698825998336 + h by simp [hdlW, c])
    go_enter Tryz.func180, Tryz.ntmps180
    go_wp2_with (go_at_call 61; refine (join_c _ _ (by omega) (by omega) (by omega) (by omega) _).mono ?_; rintro e w' ⟨rfl, rfl⟩)
    go_ret2
    exact ⟨ret_ib H.out.symm (by simp [c]), rfl⟩
  · have H := hid (show hdlW h = 0 by simp [hdlW, c])
    go_enter Tryz.func180, Tryz.ntmps180
    go_wp2
    go_ret2
    exact ⟨ret_ib H.out.symm (by simp; omega), rfl⟩
set_option maxHeartbeats 400000 in
theorem toHandle_c (n : Int) (h0 : 0 ≤ n) (h1 : n < 18446744073709551616) (w : World) :
    Calls Tryz.prog 183 #[.int .u64 n] w fun e w' => e = .returned (.tuple #[.int .u64 (toHdl n), .bool (cls n == 6)]) ∧ w' = w := by
  by_cases c : cls n = 6
  · have H := hid (show toHdl n = n % 281474976710656 by simp [toHdl, c])
    go_enter Tryz.func183, Tryz.ntmps183
    go_wp2_with (first | (go_at_call 45; refine (class_c _ (by omega) (by omega) _).mono ?_; rintro e w' ⟨rfl, rfl⟩) | (go_at_call 88; refine (loadOf_c _ (by omega) (by omega) _).mono ?_; rintro e w' ⟨rfl, rfl⟩))
    go_ret2
    exact ⟨ret_ib H.out.symm (by simp [c]), rfl⟩
  · have H := hid (show toHdl n = 0 by simp [toHdl, c])
    have d : (cls n == 6) = false := by simpa using c
    have d' : (cls n != 6) = true := by simpa using c
    go_enter Tryz.func183, Tryz.ntmps183
    go_wp2_with (first | (go_at_call 45; refine (class_c _ (by omega) (by omega) _).mono ?_; rintro e w' ⟨rfl, rfl⟩) | (go_at_call 88; refine (loadOf_c _ (by omega) (by omega) _).mono ?_; rintro e w' ⟨rfl, rfl⟩))
    go_ret2
    exact ⟨ret_ib H.out.symm d.symm, rfl⟩
set_option maxHeartbeats 400000 in
theorem toBool_c (n : Int) (h0 : 0 ≤ n) (h1 : n < 18446744073709551616) (w : World) :
    Calls Tryz.prog 90 #[.int .u64 n] w fun e w' => e = .returned (.tuple #[.bool (toBool n), .bool (cls n == 4)]) ∧ w' = w := by
  by_cases c : cls n = 4
  · have H := hid (show toBool n = (n % 281474976710656 == 2) by simp [toBool, c])
    go_enter Tryz.func90, Tryz.ntmps90
    go_wp2_with (first | (go_at_call 45; refine (class_c _ (by omega) (by omega) _).mono ?_; rintro e w' ⟨rfl, rfl⟩) | (go_at_call 88; refine (loadOf_c _ (by omega) (by omega) _).mono ?_; rintro e w' ⟨rfl, rfl⟩))
    go_ret2
    exact ⟨ret_bb H.out.symm (by simp [c]), rfl⟩
  · have H := hid (show toBool n = false by simp [toBool, c])
    have d : (cls n == 4) = false := by simpa using c
    have d' : (cls n != 4) = true := by simpa using c
    go_enter Tryz.func90, Tryz.ntmps90
    go_wp2_with (first | (go_at_call 45; refine (class_c _ (by omega) (by omega) _).mono ?_; rintro e w' ⟨rfl, rfl⟩) | (go_at_call 88; refine (loadOf_c _ (by omega) (by omega) _).mono ?_; rintro e w' ⟨rfl, rfl⟩))
    go_ret2
    exact ⟨ret_bb H.out.symm d.symm, rfl⟩
theorem sx_eq (n : Int) : wrap64 (IntKind.u64.wrap (n * 65536)) / 65536 = if n % 281474976710656 < 140737488355328 then n % 281474976710656 else n % 281474976710656 - 281474976710656 := by
  rw [IntKind.wrap_u64]
  unfold wrap64
  split <;> omega
set_option maxHeartbeats 400000 in
theorem toInt_c (n : Int) (h0 : 0 ≤ n) (h1 : n < 18446744073709551616) (w : World) :
    Calls Tryz.prog 47 #[.int .u64 n] w fun e w' => e = .returned (.tuple #[.int .i64 (toInt n), .bool (cls n == 2)]) ∧ w' = w := by
  by_cases c : cls n = 2
  · have H := hid (show toInt n = (if n % 281474976710656 < 140737488355328 then n % 281474976710656 else n % 281474976710656 - 281474976710656) by simp [toInt, c])
    go_enter Tryz.func47, Tryz.ntmps47
    go_wp2_with (first | (go_at_call 45; refine (class_c _ (by omega) (by omega) _).mono ?_; rintro e w' ⟨rfl, rfl⟩) | (go_at_call 88; refine (loadOf_c _ (by omega) (by omega) _).mono ?_; rintro e w' ⟨rfl, rfl⟩))
    go_ret2
    refine ⟨ret_ib ?_ (by simp [c]), rfl⟩
    rw [H.out]
    exact sx_eq n
  · have H := hid (show toInt n = 0 by simp [toInt, c])
    have d : (cls n == 2) = false := by simpa using c
    have d' : (cls n != 2) = true := by simpa using c
    go_enter Tryz.func47, Tryz.ntmps47
    go_wp2_with (first | (go_at_call 45; refine (class_c _ (by omega) (by omega) _).mono ?_; rintro e w' ⟨rfl, rfl⟩) | (go_at_call 88; refine (loadOf_c _ (by omega) (by omega) _).mono ?_; rintro e w' ⟨rfl, rfl⟩))
    go_ret2
    exact ⟨ret_ib H.out.symm d.symm, rfl⟩
set_option maxHeartbeats 400000 in
theorem fromInt_c (i : Int) (h0 : -9223372036854775808 ≤ i) (h1 : i ≤ 9223372036854775807) (w : World) :
    Calls Tryz.prog 62 #[.int .i64 i] w fun e w' => e = .returned (.tuple #[.int .u64 (intW i), .bool (smallB i)]) ∧ w' = w := by
  by_cases c : -140737488355328 ≤ i ∧ i ≤ 140737488355327
  · have H := hid (show smallB i = true by simp [smallB, c])
    have H' := hid (show intW i = 18444773748872577024 + i % 281474976710656 by simp [intW, smallB, c])
    obtain ⟨c1, c2⟩ := c
    go_enter Tryz.func62, Tryz.ntmps62
    go_wp2_with (first | (go_at_call 61; refine (join_c _ _ (by omega) (by omega) (by omega) (by omega) _).mono ?_; rintro e w' ⟨rfl, rfl⟩) | (go_at_call 88; refine (loadOf_c _ (by rw [IntKind.wrap_u64]; omega) (by rw [IntKind.wrap_u64]; omega) _).mono ?_; rintro e w' ⟨rfl, rfl⟩))
    go_ret2
    exact ⟨ret_ib (by rw [H'.out, IntKind.wrap_u64]; omega) H.out.symm, rfl⟩
  · have H := hid (show smallB i = false by simp [smallB]; omega)
    have H' := hid (show intW i = 0 by have := H.out; simp [intW, this])
    by_cases c1 : i < -140737488355328
    · clear c
      go_enter Tryz.func62, Tryz.ntmps62
      go_wp2
      go_ret2
      exact ⟨ret_ib H'.out.symm H.out.symm, rfl⟩
    · have c2 : 140737488355327 < i := by omega
      clear c
      go_enter Tryz.func62, Tryz.ntmps62
      go_wp2
      go_ret2
      exact ⟨ret_ib H'.out.symm H.out.symm, rfl⟩
end Go.Proofs.YtgmimmdojkoppaaGreatDoor.W
/- Package heap: how a heap lies; find, bytes, shapes, units. -/
namespace Go.Proofs.YtgmimmdojkoppaaGreatDoor.W
open Go.ChangeShapes Go.WideShapes Go.RowKit Go.Shelf
set_option linter.unusedVariables false
def flatC (H : List (Option Hc)) : List Value := H.flatMap (fun c => (clO c).cells)
theorem Cl.cells_len (c : Cl) : c.cells.length = 5 := rfl
theorem flatC_len (H : List (Option Hc)) : (flatC H).length = H.length * 5 := by
  induction H with
  | nil => rfl
  | cons b r ih => simp only [flatC, List.flatMap_cons, List.length_append, Cl.cells_len, List.length_cons] at ih ⊢; omega
theorem flatC_get (H : List (Option Hc)) (i j : Nat) (c : Option Hc) (h : H[i]? = some c) (hj : j < 5) : (flatC H)[i * 5 + j]? = (clO c).cells[j]? := by
  induction H generalizing i with
  | nil => simp at h
  | cons b r ih =>
    cases i with
    | zero =>
      simp at h; subst h
      unfold flatC
      rw [List.flatMap_cons, List.getElem?_append_left (by rw [Cl.cells_len]; omega)]
      simp
    | succ i =>
      simp at h
      have := ih i h
      unfold flatC at *
      rw [List.flatMap_cons, List.getElem?_append_right (by rw [Cl.cells_len]; omega), Cl.cells_len]
      have e : (i + 1) * 5 + j - 5 = i * 5 + j := by omega
      rw [e]; exact this
/-- a heap lies in W: its block hb, its store at sb in the blocks T, its cells vc; u units, h of them held -/
structure HLay (W : World) (hb sb : Nat) (vc : Value) (T : Nat → Prop) (H : List (Option Hc)) (u h : Nat) : Prop where
  obj : W.heap[hb]? = some (.cells [.pointer (some ⟨sb, 0, none⟩), vc, .int .i64 u, .int .i64 h].toArray 45 (0, 0))
  own : W.ownsRow 0 158 5 vc H.length (flatC H)
  st : St W T sb (hA H) 8388608 1048577
  tlt : ∀ k, T k → k < W.heap.size
  thb : ¬ T hb
  tvc : ∀ k, vc.ownBlock = some k → ¬ T k
  ok : ∀ (i : Nat) (c : Hc), H[i]? = some (some c) → c.ok
  len : H.length ≤ 1048576
  u1 : u ≤ 1048576
  h1 : h ≤ 1048576
section
variable {W W' : World} {hb sb : Nat} {vc : Value} {T : Nat → Prop} {H : List (Option Hc)} {u h : Nat}
theorem HLay.hlt (g : HLay W hb sb vc T H u h) : hb < W.heap.size := (Array.getElem?_eq_some_iff.1 g.obj).1
theorem HLay.clt (g : HLay W hb sb vc T H u h) : ∀ k, vc.ownBlock = some k → k < W.heap.size := fun k e => (g.own.lt k e).2
theorem HLay.kept (g : HLay W hb sb vc T H u h) (hs : W.heap.size ≤ W'.heap.size) (h0 : W'.heap[hb]? = W.heap[hb]?) (h1 : ∀ k, vc.ownBlock = some k → W'.heap[k]? = W.heap[k]?) (h2 : ∀ k, T k → W'.heap[k]? = W.heap[k]?) : HLay W' hb sb vc T H u h :=
  ⟨h0.trans g.obj, owns_on g.own h1, g.st.on h2, fun k e => Nat.lt_of_lt_of_le (g.tlt k e) hs, g.thb, g.tvc, g.ok, g.len, g.u1, g.h1⟩
theorem HLay.below (g : HLay W hb sb vc T H u h) (hb' : Below W.heap.size W W') : HLay W' hb sb vc T H u h :=
  g.kept hb'.size (hb'.block _ g.hlt) (fun k e => hb'.block k (g.clt k e)) (fun k e => hb'.block k (g.tlt k e))
theorem HLay.same (g : HLay W hb sb vc T H u h) (e : W'.heap = W.heap) : HLay W' hb sb vc T H u h :=
  g.kept (by rw [e]; exact Nat.le_refl _) (by rw [e]) (fun k _ => by rw [e]) (fun k _ => by rw [e])
/-- what is changed beside it -/
theorem HLay.upd {S : Nat → Prop} (g : HLay W hb sb vc T H u h) (hu : Upd S W W') (h0 : ¬ S hb) (h1 : ∀ k, vc.ownBlock = some k → ¬ S k) (h2 : ∀ k, T k → ¬ S k) : HLay W' hb sb vc T H u h :=
  g.kept hu.size (hu.block _ g.hlt h0) (fun k e => hu.block k (g.clt k e) (h1 k e)) (fun k e => hu.block k (g.tlt k e) (h2 k e))
theorem HLay.cell (g : HLay W hb sb vc T H u h) (j : Nat) : W.cell? ⟨hb, j, none⟩ = [Value.pointer (some ⟨sb, 0, none⟩), vc, .int .i64 u, .int .i64 h][j]? := by
  rw [cell_of_row W hb j _ _ (0, 0) g.obj]; simp
theorem HLay.thaw (g : HLay W hb sb vc T H u h) (j : Nat) : W.frozen? ⟨hb, j, none⟩ = false := by
  simp [World.frozen?, g.obj]
theorem HLay.sl (g : HLay W hb sb vc T H u h) : ∃ o cap, vc = .slice o H.length cap := by
  rcases g.own.2 with ⟨rfl, e⟩ | ⟨g', cap, cur, rfl, _⟩
  · exact ⟨_, _, by rw [e]⟩
  · exact ⟨_, _, rfl⟩
/-- where a cell's row lies -/
theorem HLay.at (g : HLay W hb sb vc T H u h) {i : Nat} (hi : i < H.length) : ∃ b cap, vc = .slice (some ⟨b, 0, none⟩) H.length cap ∧ (∀ j c, H[i]? = some c → j < 5 → W.cell? ⟨b, i * 5 + j, none⟩ = (clO c).cells[j]?) ∧ ∀ j, W.frozen? ⟨b, j, none⟩ = false := by
  obtain ⟨b, cap, rfl, hc⟩ := own_slice g.own (by omega)
  refine ⟨b, cap, rfl, fun j c hc hj => ?_, fun j => g.own.frozenAt j⟩
  rw [g.own.cellAt _ (by omega), flatC_get _ _ _ _ hc hj]
end
end Go.Proofs.YtgmimmdojkoppaaGreatDoor.W
/- Package heap: elementBytes, shape, unitsOf, find, bytes, wordOf, isValue. -/
namespace Go.Proofs.YtgmimmdojkoppaaGreatDoor.W
open Go.ChangeShapes Go.WideShapes Go.RowKit Go.Shelf
set_option linter.unusedVariables false
theorem elementBytes_c (k : Int) (W : World) : Calls Tryz.prog 171 #[.int .i64 k] W fun e w' => e = .returned (.int .i64 (elB k : Nat)) ∧ w' = W := by
  rcases elB_cases k with ⟨h, rfl⟩ | ⟨h, rfl⟩ | ⟨h, rfl⟩ | ⟨h, rfl⟩ | ⟨h, h5, h6, h7, h8⟩
  all_goals
    rw [h]
    clear h
    go_enter Tryz.func171, Tryz.ntmps171
    go_wp2
    go_ret
    exact ⟨rfl, rfl⟩
theorem shape_c (k : Int) (v : Bool) (W : World) : Calls Tryz.prog 170 #[.int .i64 k, .bool v] W fun e w' => e = .returned (.int .i64 (shp k v)) ∧ w' = W := by
  have ce := elementBytes_c k W
  have hn : (0 : Int) ≤ (elB k : Nat) := by omega
  by_cases c : elB k > 0
  · have c' : ((elB k : Nat) : Int) > 0 := by omega
    generalize hE : ((elB k : Nat) : Int) = E at *
    have hs : Hid (shp k v = if v = true then 4 else 3) := by show shp k v = _; unfold shp; rw [if_pos c]
    clear c hE
    cases v
    · go_enter Tryz.func170, Tryz.ntmps170
      go_wp2_with (go_at_call 171; (with_reducible refine ce.mono ?_); rintro e w' ⟨rfl, rfl⟩)
      go_ret
      exact ⟨by rw [hs.out]; rfl, rfl⟩
    · go_enter Tryz.func170, Tryz.ntmps170
      go_wp2_with (go_at_call 171; (with_reducible refine ce.mono ?_); rintro e w' ⟨rfl, rfl⟩)
      go_ret
      exact ⟨by rw [hs.out]; rfl, rfl⟩
  · have hz : ((elB k : Nat) : Int) = 0 := by omega
    rw [hz] at ce
    have hs : Hid (shp k v = if v = true then 0 else if k = 2 then 1 else if k = 4 then 2 else if k = 9 then 5 else 0) := by show shp k v = _; unfold shp; rw [if_neg c]
    clear c hz hn
    cases v
    · by_cases e2 : k = 2
      · have hs' := hs.out; rw [if_neg (by decide), if_pos e2] at hs'
        have H := hid hs'
        clear hs hs'
        subst e2
        rw [H.out]
        clear H
        go_enter Tryz.func170, Tryz.ntmps170
        go_wp2_with (go_at_call 171; (with_reducible refine ce.mono ?_); rintro e w' ⟨rfl, rfl⟩)
        go_ret
        exact ⟨rfl, rfl⟩
      by_cases e4 : k = 4
      · have hs' := hs.out; rw [if_neg (by decide), if_neg e2, if_pos e4] at hs'
        have H := hid hs'
        clear hs hs'
        subst e4
        rw [H.out]
        clear H
        go_enter Tryz.func170, Tryz.ntmps170
        go_wp2_with (go_at_call 171; (with_reducible refine ce.mono ?_); rintro e w' ⟨rfl, rfl⟩)
        go_ret
        exact ⟨rfl, rfl⟩
      by_cases e9 : k = 9
      · have hs' := hs.out; rw [if_neg (by decide), if_neg e2, if_neg e4, if_pos e9] at hs'
        have H := hid hs'
        clear hs hs'
        subst e9
        rw [H.out]
        clear H
        go_enter Tryz.func170, Tryz.ntmps170
        go_wp2_with (go_at_call 171; (with_reducible refine ce.mono ?_); rintro e w' ⟨rfl, rfl⟩)
        go_ret
        exact ⟨rfl, rfl⟩
      · have hs' := hs.out; rw [if_neg (by decide), if_neg e2, if_neg e4, if_neg e9] at hs'
        have H := hid hs'
        clear hs hs'
        rw [H.out]
        clear H
        go_enter Tryz.func170, Tryz.ntmps170
        go_wp2_with (go_at_call 171; (with_reducible refine ce.mono ?_); rintro e w' ⟨rfl, rfl⟩)
        go_ret
        exact ⟨rfl, rfl⟩
    · have hs' := hs.out; rw [if_pos rfl] at hs'
      have H := hid hs'
      clear hs hs'
      rw [H.out]
      clear H
      go_enter Tryz.func170, Tryz.ntmps170
      go_wp2_with (go_at_call 171; (with_reducible refine ce.mono ?_); rintro e w' ⟨rfl, rfl⟩)
      go_ret
      exact ⟨rfl, rfl⟩
theorem unitsOf_c (n : Nat) (hn : n ≤ 100000000) (W : World) : Calls Tryz.prog 174 #[.int .i64 n] W fun e w' => e = .returned (.int .i64 (1 + (n + 7) / 8 : Nat)) ∧ w' = W := by
  have h1 : IntKind.i64.wrap (((n : Int) + 8) - 1) = (n : Int) + 7 := by rw [IntKind.wrap_i64]; omega
  have h2 : IntKind.i64.wrap ((n : Int) + 8) = (n : Int) + 8 := by rw [IntKind.wrap_i64]; omega
  have h3 : Int.tdiv ((n : Int) + 7) 8 = ((n + 7) / 8 : Nat) := by rw [Int.tdiv_eq_ediv_of_nonneg (by omega)]; omega
  have h4 : IntKind.i64.wrap ((1 : Int) + ((n + 7) / 8 : Nat)) = (1 + (n + 7) / 8 : Nat) := by rw [IntKind.wrap_i64]; omega
  go_enter Tryz.func174, Tryz.ntmps174
  go_wp2
  go_ret
  exact ⟨rfl, rfl⟩
theorem wordOf_c (i : Nat) (hi : i < 281474976710656) (W : World) : Calls Tryz.prog 132 #[.int .i64 i] W fun e w' => e = .returned (.int .u64 (18445336698825998336 + i : Nat)) ∧ w' = W := by
  have cf := fromHandle_c i (by omega) W
  have e1 : hdlW i = (18445336698825998336 + i : Nat) := by simp [hdlW]; omega
  rw [e1] at cf
  have hw : IntKind.u64.wrap (i : Int) = i := by rw [IntKind.wrap_u64]; omega
  clear e1
  go_enter Tryz.func132, Tryz.ntmps132
  go_wp2_with (go_at_call 180; (with_reducible refine cf.mono ?_); rintro e w' ⟨rfl, rfl⟩)
  go_ret
  exact ⟨rfl, rfl⟩
section
variable {W : World} {hb sb : Nat} {vc : Value} {T : Nat → Prop} {H : List (Option Hc)} {u h : Nat}
theorem bytes_c (g : HLay W hb sb vc T H u h) (i : Nat) (c : Hc) (hc : H[i]? = some (some c)) : Calls Tryz.prog 136 #[.pointer (some ⟨hb, 0, none⟩), .int .i64 i] W fun e w' => e = .returned (.int .i64 c.bytes.length) ∧ w' = W := by
  have cl := len_st g.st i c.bytes (hA_some hc)
  have c0 := g.cell 0
  simp at c0
  go_enter Tryz.func136, Tryz.ntmps136
  go_wp2_with (go_at_call 184; (with_reducible refine cl.mono ?_); rintro e w' ⟨rfl, rfl⟩)
  go_ret
  exact ⟨rfl, rfl⟩
theorem find_c (g : HLay W hb sb vc T H u h) (w : Nat) (hw : w < 18446744073709551616) : Calls Tryz.prog 134 #[.pointer (some ⟨hb, 0, none⟩), .int .u64 w] W fun e w' => e = .returned (.tuple #[.int .i64 ((hit H w).getD 0 : Nat), .bool (hit H w).isSome]) ∧ w' = W := by
  have ct := toHandle_c w (by omega) (by omega) W
  have hlen := g.len
  have c1 := g.cell 1
  simp at c1
  obtain ⟨o, cap, hvc⟩ := g.sl
  by_cases k : cls (w : Int) = 6
  · have e1 : toHdl w = (w % 281474976710656 : Nat) := by simp [toHdl, k]
    have e2 : (cls (w : Int) == 6) = true := by simp [k]
    rw [e1, e2] at ct
    have HK := hid k
    clear e1 e2 k
    have hm : w % 281474976710656 < 281474976710656 := Nat.mod_lt _ (by decide)
    have hhit : hit H w = if ((H[w % 281474976710656]?).getD none).isSome = true then some (w % 281474976710656) else none := by
      unfold hit; simp [HK.out]
    generalize w % 281474976710656 = i at *
    by_cases hi : i < H.length
    · obtain ⟨b, cap', hvc', hcell, hth⟩ := g.at hi
      have hce := hcell 0 H[i] (by simp [hi]) (by omega)
      have i0 : (0 : Int) ≤ i := by omega
      have i1 : (i : Int) < H.length := by omega
      have iw : IntKind.u64.wrap (H.length : Int) = H.length := by rw [IntKind.wrap_u64]; omega
      have iw2 : IntKind.i64.wrap (i : Int) = i := by rw [IntKind.wrap_i64]; omega
      subst hvc'
      clear hvc
      cases hx : H[i] with
      | none =>
        rw [hx] at hce
        simp [clO, Cl.cells] at hce
        have e3 : hit H w = none := by rw [hhit]; simp [hi, hx]
        rw [e3]
        clear hcell hhit hx g e3
        go_enter Tryz.func134, Tryz.ntmps134
        go_wp2_with (go_at_call 183; (with_reducible refine ct.mono ?_); rintro e w' ⟨rfl, rfl⟩)
        go_ret2
        exact ⟨rfl, rfl⟩
      | some c =>
        rw [hx] at hce
        simp [clO, Cl.cells] at hce
        have hk0 := Hc.kind_ne (g.ok i c (by simp [hi, hx]))
        have e3 : hit H w = some i := by rw [hhit]; simp [hi, hx]
        have d1 : decide (H.length ≤ i) = false := by simp; omega
        have d2 : (c.cl.kind == 0) = false := by simpa using hk0
        rw [e3]
        clear hcell hhit hx g e3
        go_enter Tryz.func134, Tryz.ntmps134
        go_wp2_with (go_at_call 183; (with_reducible refine ct.mono ?_); rintro e w' ⟨rfl, rfl⟩)
        go_ret2
        exact ⟨rfl, rfl⟩
    · have e3 : hit H w = none := by rw [hhit]; simp [hi]
      have i1 : (H.length : Int) ≤ i := by omega
      have iw : IntKind.u64.wrap (H.length : Int) = H.length := by rw [IntKind.wrap_u64]; omega
      rw [e3]
      subst hvc
      clear hhit g e3
      go_enter Tryz.func134, Tryz.ntmps134
      go_wp2_with (go_at_call 183; (with_reducible refine ct.mono ?_); rintro e w' ⟨rfl, rfl⟩)
      go_ret2
      exact ⟨rfl, rfl⟩
  · have e2 : (cls (w : Int) == 6) = false := by simp [k]
    have e3 : hit H w = none := by unfold hit; simp [k]
    rw [e2] at ct
    rw [e3]
    subst hvc
    clear g e3
    go_enter Tryz.func134, Tryz.ntmps134
    go_wp2_with (go_at_call 183; (with_reducible refine ct.mono ?_); rintro e w' ⟨rfl, rfl⟩)
    go_ret2
    exact ⟨rfl, rfl⟩
end
end Go.Proofs.YtgmimmdojkoppaaGreatDoor.W
/- A range over an iterator, whatever iterator: what it tells, and the loop over it. -/
namespace Go.Proofs.YtgmimmdojkoppaaGreatDoor.W
open Go.ChangeShapes Go.WideShapes Go.RowKit Go.Shelf
set_option linter.unusedVariables false
theorem below_cell {W W' : World} {p : Addr} {v : Value} (hb : Below W.heap.size W W') (h : W.cell? p = some v) : W'.cell? p = some v := by
  rcases Nat.lt_or_ge p.block W.heap.size with c | c
  · rw [hb.cell c]; exact h
  · exfalso
    have e : W.heap[p.block]? = none := Array.getElem?_eq_none c
    simp [World.cell?, e] at h
/-- the function gf, with lb captured, yields vals, as long as it is asked, where G holds; beyond that it only lays blocks -/
def Iter (gf : Nat) (lb : Array Value) (vals : List (Array Value)) (G : Nat → World → Prop) : Prop :=
  ∀ (n l : Nat) (J : Nat → World → Prop) (X : World → Prop), 1 ≤ n → (∀ i W, J i W → G i W) → (∀ i W W', J i W → Below W.heap.size W W' → J i W') →
    (∀ i (hi : i < vals.length) W, J i W → YieldAt Fence.wide (n - 1) Tryz.prog l vals[i] W fun e W' => (e = .returned (.bool true) ∧ J (i + 1) W') ∨ (e = .returned (.bool false) ∧ X W')) →
    ∀ W, J 0 W → CallsIn Fence.wide n Tryz.prog gf (#[.func (.yield l) #[] #[]] ++ lb) W fun e W' => (∃ v, e = .returned v) ∧ (J vals.length W' ∨ X W')
/-- how the body of a round is left -/
def rndWay (L D : Nat) (W : World) (In : World → Prop) (Ix : Code → World → Prop) : Exit → Act → World → Prop
  | .normal, _, W' => (W'.heap[L]? = W.heap[L]? ∧ W'.heap[D]? = W.heap[D]?) ∧ In W'
  | .ret, _, W' => (W'.heap[L]? = W.heap[L]? ∧ W'.heap[D]? = W.heap[D]?) ∧ Ix .ret W'
  | .exit id, _, W' => (W'.heap[L]? = W.heap[L]? ∧ W'.heap[D]? = W.heap[D]?) ∧ Ix (.exit id) W'
  | _, _, _ => False
theorem iter_law {gf : Nat} {lb : Array Value} {vals : List (Array Value)} {G : Nat → World → Prop} (hit : Iter gf lb vals G) (eg : ∀ args w, (callFunc gf args).run Tryz.prog w = .ok (.enter gf args) w)
    {g : Operand} {ps : Array Tmp} {assign body : Code} {Q : Exit → Act → World → Prop} {a : Act} {W0 : World} (hg : a.eval g = .func (.func gf) #[] lb)
    (I : Nat → World → Prop) (Ix : Code → World → Prop) (hL : ∀ i W, I i W → G i W)
    (hI : ∀ i W W', I i W → Upd (fun k => k = W0.heap.size + 1) W W' → I i W')
    (hIx : ∀ c W W', Ix c W → Upd (fun k => k = W0.heap.size + 1) W W' → Ix c W') (h0 : I 0 W0)
    (A : Nat → Act) (hsz : ∀ i (hi : i < vals.length), vals[i].size = ps.size)
    (hassign : ∀ (L i : Nat) (hi : i < vals.length) (W : World) (K : Act → World → Prop), K (A i) W → assign.wpIn (Fence.wide.inRound L) 7 Tryz.prog (Exit.then K (fun _ _ _ => False)) { tmps := (ps.zip vals[i]).foldl (fun t (p, v) => t.setIfInBounds p v) a.tmps, defers := [] } W)
    (hbody : ∀ (L : Nat) i (hi : i < vals.length) W, L = W0.heap.size + 1 → I i W → W0.heap.size + 2 ≤ W.heap.size → (∃ r, W.heap[L]? = some (.loop r)) → body.wpIn (Fence.wide.inRound L) 7 Tryz.prog (rndWay L W0.heap.size W (I (i + 1)) Ix) (A i) W)
    (hdone : ∀ W, I vals.length W → W.heap[W0.heap.size]? = some (.deferred (some [])) → Q .normal { a with defers := { target := .collected W0.heap.size, args := #[] } :: a.defers } W)
    (hstop : ∀ c W, Ix c W → W.heap[W0.heap.size]? = some (.deferred (some [])) → c.wp Tryz.prog Q { a with defers := { target := .collected W0.heap.size, args := #[] } :: a.defers } W) :
    (Code.rangeFunc g ps assign body).wp Tryz.prog Q a W0 := by
  have hUL : ∀ (W : World) (o : Obj), Upd (fun k => k = W0.heap.size + 1) W (W.putObj (W0.heap.size + 1) o) := fun W o => upd_put (S := fun k => k = W0.heap.size + 1) (L := W0.heap.size + 1) rfl o
  refine (wpIn_wide (n := 9)).1 (rf_law hg eg (fun W => I vals.length W) Ix ?_ ?_ ?_)
  · intro r W1 hr1 hr2 hr3 hr4 hr5 hr6 hW1 hL1
    have hI1 : I 0 W1 := by
      refine hI 0 W0 W1 h0 ?_
      rw [hW1]; exact ((Upd.refl _ W0).alloc _).alloc _
    have hsz1 : W0.heap.size + 2 ≤ W1.heap.size := by rw [hW1]; simp
    have key := hit 8 (W0.heap.size + 1)
      (fun i W => I i W ∧ LoopAt W (W0.heap.size + 1) W0.heap.size r ∧ W0.heap.size + 2 ≤ W.heap.size)
      (fun W => ∃ c, Ix c W ∧ LoopAt W (W0.heap.size + 1) W0.heap.size { r with state := .done, pending := some c })
      (by omega) (fun i W h => hL i W h.1) ?_ ?_ W1 ⟨hI1, hL1, hsz1⟩
    · refine key.mono ?_
      rintro e W3 ⟨hv, ⟨h1, h2, _⟩ | ⟨c, h1, h2⟩⟩
      · exact ⟨hv, .inl ⟨h1, r, h2, by rw [hr1]; simp, hr2⟩⟩
      · exact ⟨hv, .inr ⟨c, h1, _, h2, by simp, rfl⟩⟩
    · rintro i W W' ⟨h1, h2, h3⟩ hb
      exact ⟨hI i W W' h1 (Upd.of_below hb), h2.kept (hb.block _ (by omega)) (hb.block _ (by omega)), by have := hb.size; omega⟩
    · rintro i hi W ⟨hi1, hl1, hs1⟩
      have hargs : vals[i].size = r.params.size := by rw [hr4]; exact hsz i hi
      refine YieldAt.mono (yield_law (Rn := fun W' => I (i + 1) W' ∧ LoopAt W' (W0.heap.size + 1) W0.heap.size r ∧ W0.heap.size + 2 ≤ W'.heap.size) (Rx := fun c W' => Ix c W' ∧ LoopAt W' (W0.heap.size + 1) W0.heap.size { r with state := .done, pending := some c }) hl1 hr1 hargs (A i) ?_ ?_) ?_
      · intro K hK
        rw [hr5, hr4, hr3]
        exact hassign _ i hi W K hK
      · intro W2 hW2 hl2
        have hI2 : I i W2 := by rw [hW2]; exact hI i W _ hi1 (hUL W _)
        have hs2 : W0.heap.size + 2 ≤ W2.heap.size := by rw [hW2]; simpa using hs1
        have hbd := hbody _ i hi W2 rfl hI2 hs2 ⟨_, hl2.lp⟩
        rw [← hr6] at hbd
        refine wpIn_mono hbd ?_
        intro e a3 W3 hp
        have put : ∀ q : Loop, (W3.heap[W0.heap.size + 1]? = W2.heap[W0.heap.size + 1]? ∧ W3.heap[W0.heap.size]? = W2.heap[W0.heap.size]?) → LoopAt W3 (W0.heap.size + 1) W0.heap.size { r with state := .busy } ∧ LoopAt (W3.putObj (W0.heap.size + 1) (.loop q)) (W0.heap.size + 1) W0.heap.size q ∧ W0.heap.size + 2 ≤ (W3.putObj (W0.heap.size + 1) (.loop q)).heap.size := by
          rintro q ⟨e1, e2⟩
          have hl3 := hl2.kept e1 e2
          refine ⟨hl3, hl3.put q, ?_⟩
          have := (Array.getElem?_eq_some_iff.1 hl3.lp).1
          simp; omega
        cases e with
        | normal =>
          obtain ⟨hk, hin⟩ := hp
          obtain ⟨p1, p2, p4⟩ := put { r with state := .ready, pending := none } hk
          have er : ({ r with state := .ready, pending := none } : Loop) = r := by cases r; simp_all
          refine ⟨p1, hI _ W3 _ hin (hUL W3 _), ?_, p4⟩
          rw [er] at p2 ⊢
          exact p2
        | ret =>
          obtain ⟨hk, hin⟩ := hp
          obtain ⟨p1, p2, p4⟩ := put { r with state := .done, pending := some .ret } hk
          exact ⟨p1, hIx _ W3 _ hin (hUL W3 _), p2⟩
        | exit id =>
          obtain ⟨hk, hin⟩ := hp
          obtain ⟨p1, p2, p4⟩ := put { r with state := .done, pending := some (.exit id) } hk
          exact ⟨p1, hIx _ W3 _ hin (hUL W3 _), p2⟩
        | goto t => exact hp.elim
        | panic ch => exact hp.elim
        | outgrown => exact hp.elim
      · rintro e W' (⟨rfl, h1⟩ | ⟨rfl, c, h1⟩)
        · exact .inl ⟨rfl, h1⟩
        · exact .inr ⟨rfl, c, h1⟩
  · intro W3 q hd hl
    exact hdone _ (hI _ W3 _ hd (hUL W3 _)) hl.defs
  · intro W3 q c hs hl
    exact wpIn_wide.2 (hstop c _ (hIx _ W3 _ hs (hUL W3 _)) hl.defs)
end Go.Proofs.YtgmimmdojkoppaaGreatDoor.W
