/- Contracts of the reference's faces: each returns what package word's own does; the world has at most drawn. -/
import Derived.Test.YtjkabijejhmhkaaRefCls
import Derived.Test.YtjkabijejhmhkaaTxt
import Derived.Test.YtjkabijejhmhkaaIs
namespace Go.Proofs.Ytjkabijejhmhkaa.W
open Go.ChangeShapes Go.WideShapes Go.RowKit

set_option maxHeartbeats 400000 in
theorem refFromFloat_c (n : Int) (h0 : 0 ≤ n) (h1 : n < 18446744073709551616) (w : World) :
    Calls Try.prog 21 #[.int .u64 n] w fun e w' => e = .returned (.int .u64 (fltW n)) ∧ w' = w := by
  cases c : nanB n
  · have H := hid (show fltW n = n by simp [fltW, c])
    go_enter Try.func21, Try.ntmps21
    go_wp2_with (go_at_call 38; refine (refNaN_c _ (by omega) (by omega) _).mono ?_; rintro e w' ⟨rfl, rfl⟩)
    go_ret
    exact ⟨ret_int H.out.symm, rfl⟩
  · have H := hid (show fltW n = 9221120237041090560 by simp [fltW, c])
    go_enter Try.func21, Try.ntmps21
    go_wp2_with (go_at_call 38; refine (refNaN_c _ (by omega) (by omega) _).mono ?_; rintro e w' ⟨rfl, rfl⟩)
    go_ret
    exact ⟨ret_int H.out.symm, rfl⟩
set_option maxHeartbeats 400000 in
theorem refFromNil_c (w : World) : Calls Try.prog 23 #[] w fun e w' => e = .returned (.int .u64 18444492273895866368) ∧ w' = w := by
  go_enter Try.func23, Try.ntmps23
  go_wp2
  go_ret
  exact ⟨rfl, rfl⟩
set_option maxHeartbeats 400000 in
theorem refFromBool_c (b : Bool) (w : World) : Calls Try.prog 25 #[.bool b] w fun e w' => e = .returned (.int .u64 (boolW b)) ∧ w' = w := by
  cases b
  · go_enter Try.func25, Try.ntmps25
    go_wp2
    go_ret
    exact ⟨rfl, rfl⟩
  · go_enter Try.func25, Try.ntmps25
    go_wp2
    go_ret
    exact ⟨rfl, rfl⟩
set_option maxHeartbeats 400000 in
theorem refFromHandle_c (h : Int) (h0 : 0 ≤ h) (w : World) :
    Calls Try.prog 31 #[.int .u64 h] w fun e w' => e = .returned (.tuple #[.int .u64 (hdlW h), .bool (decide (h < 281474976710656))]) ∧ w' = w := by
  by_cases c : h < 281474976710656
  · have H := hid (show hdlW h = 18445336698825998336 + h by simp [hdlW, c])
    go_enter Try.func31, Try.ntmps31
    go_wp2
    go_ret2
    exact ⟨ret_ib H.out.symm (by simp [c]), rfl⟩
  · have H := hid (show hdlW h = 0 by simp [hdlW, c])
    go_enter Try.func31, Try.ntmps31
    go_wp2
    go_ret2
    exact ⟨ret_ib H.out.symm (by simp; omega), rfl⟩
set_option maxHeartbeats 400000 in
theorem refSmall_c (i : Int) (w : World) :
    Calls Try.prog 42 #[.int .i64 i] w fun e w' => e = .returned (.bool (smallB i)) ∧ w' = w := by
  by_cases c1 : -140737488355328 ≤ i
  · go_enter Try.func42, Try.ntmps42
    go_wp2
    go_ret
    exact ⟨ret_bool (by unfold smallB; rw [Bool.eq_iff_iff]; simp; omega), rfl⟩
  · have H := hid (show smallB i = false by simp [smallB]; omega)
    go_enter Try.func42, Try.ntmps42
    go_wp2
    go_ret
    exact ⟨ret_bool H.out.symm, rfl⟩
set_option maxHeartbeats 400000 in
theorem refFromInt_c (i : Int) (h0 : -9223372036854775808 ≤ i) (h1 : i ≤ 9223372036854775807) (w : World) :
    Calls Try.prog 27 #[.int .i64 i] w fun e w' => e = .returned (.tuple #[.int .u64 (intW i), .bool (smallB i)]) ∧ w' = w := by
  cases c : smallB i
  · have H := hid (show intW i = 0 by simp [intW, c])
    go_enter Try.func27, Try.ntmps27
    go_wp2_with (go_at_call 42; refine (refSmall_c _ _).mono ?_; rintro e w' ⟨rfl, rfl⟩)
    go_ret2
    exact ⟨ret_ib H.out.symm rfl, rfl⟩
  · have H := hid (show intW i = 18444773748872577024 + i % 281474976710656 by simp [intW, c])
    have c' := c
    simp [smallB] at c'
    obtain ⟨c1, c2⟩ := c'
    by_cases d : i < 0
    all_goals
      go_enter Try.func27, Try.ntmps27
      go_wp2_with (go_at_call 42; refine (refSmall_c _ _).mono ?_; rintro e w' ⟨rfl, rfl⟩)
      go_ret2
      exact ⟨ret_ib (by rw [H.out]; omega) rfl, rfl⟩
set_option maxHeartbeats 400000 in
theorem refToHandle_c (n : Int) (h0 : 0 ≤ n) (h1 : n < 18446744073709551616) (w : World) :
    Calls Try.prog 18 #[.int .u64 n] w fun e w' => e = .returned (.tuple #[.int .u64 (toHdl n), .bool (cls n == 6)]) ∧ ∃ m, w' = w.drewN m := by
  by_cases c : cls n = 6
  · have H := hid (show toHdl n = n % 281474976710656 by simp [toHdl, c])
    go_enter Try.func18, Try.ntmps18
    go_wp2_with (go_at_call 10; refine (refClass_c _ (by omega) (by omega) _).mono ?_; rintro e w' ⟨rfl, m, rfl⟩)
    go_ret2
    exact ⟨ret_ib H.out.symm (by simp [c]), _, rfl⟩
  · have H := hid (show toHdl n = 0 by simp [toHdl, c])
    have d : (cls n == 6) = false := by simpa using c
    have d' : (cls n != 6) = true := by simpa using c
    go_enter Try.func18, Try.ntmps18
    go_wp2_with (go_at_call 10; refine (refClass_c _ (by omega) (by omega) _).mono ?_; rintro e w' ⟨rfl, m, rfl⟩)
    go_ret2
    exact ⟨ret_ib H.out.symm d.symm, _, rfl⟩
set_option maxHeartbeats 400000 in
theorem refToBool_c (n : Int) (h0 : 0 ≤ n) (h1 : n < 18446744073709551616) (w : World) :
    Calls Try.prog 14 #[.int .u64 n] w fun e w' => e = .returned (.tuple #[.bool (toBool n), .bool (cls n == 4)]) ∧ ∃ m, w' = w.drewN m := by
  by_cases c : cls n = 4
  · have H := hid (show toBool n = (n == 18444492273895866370) by
      have := cls_is4 n c
      simp only [toBool, c, if_true]
      rw [Bool.eq_iff_iff]; simp; omega)
    go_enter Try.func14, Try.ntmps14
    go_wp2_with (go_at_call 10; refine (refClass_c _ (by omega) (by omega) _).mono ?_; rintro e w' ⟨rfl, m, rfl⟩)
    go_ret2
    exact ⟨ret_bb H.out.symm (by simp [c]), _, rfl⟩
  · have H := hid (show toBool n = false by simp [toBool, c])
    have d : (cls n == 4) = false := by simpa using c
    have d' : (cls n != 4) = true := by simpa using c
    go_enter Try.func14, Try.ntmps14
    go_wp2_with (go_at_call 10; refine (refClass_c _ (by omega) (by omega) _).mono ?_; rintro e w' ⟨rfl, m, rfl⟩)
    go_ret2
    exact ⟨ret_bb H.out.symm d.symm, _, rfl⟩
set_option maxHeartbeats 400000 in
theorem refToInt_c (n : Int) (h0 : 0 ≤ n) (h1 : n < 18446744073709551616) (w : World) :
    Calls Try.prog 12 #[.int .u64 n] w fun e w' => e = .returned (.tuple #[.int .i64 (toInt n), .bool (cls n == 2)]) ∧ ∃ m, w' = w.drewN m := by
  by_cases c : cls n = 2
  · have H := hid (show toInt n = (if n % 281474976710656 < 140737488355328 then n % 281474976710656 else n % 281474976710656 - 281474976710656) by simp [toInt, c])
    by_cases d : n % 281474976710656 < 140737488355328
    all_goals
      go_enter Try.func12, Try.ntmps12
      go_wp2_with (go_at_call 10; refine (refClass_c _ (by omega) (by omega) _).mono ?_; rintro e w' ⟨rfl, m, rfl⟩)
      go_ret2
      exact ⟨ret_ib (by rw [H.out]; split <;> omega) (by simp [c]), _, rfl⟩
  · have H := hid (show toInt n = 0 by simp [toInt, c])
    have d : (cls n == 2) = false := by simpa using c
    have d' : (cls n != 2) = true := by simpa using c
    go_enter Try.func12, Try.ntmps12
    go_wp2_with (go_at_call 10; refine (refClass_c _ (by omega) (by omega) _).mono ?_; rintro e w' ⟨rfl, m, rfl⟩)
    go_ret2
    exact ⟨ret_ib H.out.symm d.symm, _, rfl⟩
end Go.Proofs.Ytjkabijejhmhkaa.W
