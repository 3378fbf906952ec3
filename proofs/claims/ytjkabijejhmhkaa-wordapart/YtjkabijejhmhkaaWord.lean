/- Contracts of the faces of package word (all but strings): what each returns, at every argument of its kind, with the world as it was. -/
import Derived.Test.YtjkabijejhmhkaaCls
namespace Go.Proofs.Ytjkabijejhmhkaa.W
open Go.ChangeShapes Go.WideShapes Go.RowKit

set_option maxHeartbeats 400000 in
theorem fromFloat_c (n : Int) (h0 : 0 ≤ n) (h1 : n < 18446744073709551616) (w : World) :
    Calls Try.prog 20 #[.int .u64 n] w fun e w' => e = .returned (.int .u64 (fltW n)) ∧ w' = w := by
  cases c : nanB n
  · have H := hid (show fltW n = n by simp [fltW, c])
    go_enter Try.func20, Try.ntmps20
    go_wp2_with (go_at_call 32; refine (isNaN_c _ (by omega) (by omega) _).mono ?_; rintro e w' ⟨rfl, rfl⟩)
    go_ret
    exact ⟨ret_int H.out.symm, rfl⟩
  · have H := hid (show fltW n = 9221120237041090560 by simp [fltW, c])
    go_enter Try.func20, Try.ntmps20
    go_wp2_with (go_at_call 32; refine (isNaN_c _ (by omega) (by omega) _).mono ?_; rintro e w' ⟨rfl, rfl⟩)
    go_ret
    exact ⟨ret_int H.out.symm, rfl⟩
set_option maxHeartbeats 400000 in
theorem fromNil_c (w : World) : Calls Try.prog 22 #[] w fun e w' => e = .returned (.int .u64 18444492273895866368) ∧ w' = w := by
  go_enter Try.func22, Try.ntmps22
  go_wp2_with (go_at_call 41; refine (join_c _ _ (by omega) (by omega) (by omega) (by omega) _).mono ?_; rintro e w' ⟨rfl, rfl⟩)
  go_ret
  exact ⟨rfl, rfl⟩
set_option maxHeartbeats 400000 in
theorem fromBool_c (b : Bool) (w : World) : Calls Try.prog 24 #[.bool b] w fun e w' => e = .returned (.int .u64 (boolW b)) ∧ w' = w := by
  cases b
  · go_enter Try.func24, Try.ntmps24
    go_wp2_with (go_at_call 41; refine (join_c _ _ (by omega) (by omega) (by omega) (by omega) _).mono ?_; rintro e w' ⟨rfl, rfl⟩)
    go_ret
    exact ⟨rfl, rfl⟩
  · go_enter Try.func24, Try.ntmps24
    go_wp2_with (go_at_call 41; refine (join_c _ _ (by omega) (by omega) (by omega) (by omega) _).mono ?_; rintro e w' ⟨rfl, rfl⟩)
    go_ret
    exact ⟨rfl, rfl⟩
set_option maxHeartbeats 400000 in
theorem fromHandle_c (h : Int) (h0 : 0 ≤ h) (w : World) :
    Calls Try.prog 30 #[.int .u64 h] w fun e w' => e = .returned (.tuple #[.int .u64 (hdlW h), .bool (decide (h < 281474976710656))]) ∧ w' = w := by
  by_cases c : h < 281474976710656
  · have H := hid (show hdlW h = 18445336698825998336 + h by simp [hdlW, c])
    go_enter Try.func30, Try.ntmps30
    go_wp2_with (go_at_call 41; refine (join_c _ _ (by omega) (by omega) (by omega) (by omega) _).mono ?_; rintro e w' ⟨rfl, rfl⟩)
    go_ret2
    exact ⟨ret_ib H.out.symm (by simp [c]), rfl⟩
  · have H := hid (show hdlW h = 0 by simp [hdlW, c])
    go_enter Try.func30, Try.ntmps30
    go_wp2
    go_ret2
    exact ⟨ret_ib H.out.symm (by simp; omega), rfl⟩
set_option maxHeartbeats 400000 in
theorem toHandle_c (n : Int) (h0 : 0 ≤ n) (h1 : n < 18446744073709551616) (w : World) :
    Calls Try.prog 17 #[.int .u64 n] w fun e w' => e = .returned (.tuple #[.int .u64 (toHdl n), .bool (cls n == 6)]) ∧ w' = w := by
  by_cases c : cls n = 6
  · have H := hid (show toHdl n = n % 281474976710656 by simp [toHdl, c])
    go_enter Try.func17, Try.ntmps17
    go_wp2_with (first | (go_at_call 9; refine (class_c _ (by omega) (by omega) _).mono ?_; rintro e w' ⟨rfl, rfl⟩) | (go_at_call 36; refine (loadOf_c _ (by omega) (by omega) _).mono ?_; rintro e w' ⟨rfl, rfl⟩))
    go_ret2
    exact ⟨ret_ib H.out.symm (by simp [c]), rfl⟩
  · have H := hid (show toHdl n = 0 by simp [toHdl, c])
    have d : (cls n == 6) = false := by simpa using c
    have d' : (cls n != 6) = true := by simpa using c
    go_enter Try.func17, Try.ntmps17
    go_wp2_with (first | (go_at_call 9; refine (class_c _ (by omega) (by omega) _).mono ?_; rintro e w' ⟨rfl, rfl⟩) | (go_at_call 36; refine (loadOf_c _ (by omega) (by omega) _).mono ?_; rintro e w' ⟨rfl, rfl⟩))
    go_ret2
    exact ⟨ret_ib H.out.symm d.symm, rfl⟩
set_option maxHeartbeats 400000 in
theorem toBool_c (n : Int) (h0 : 0 ≤ n) (h1 : n < 18446744073709551616) (w : World) :
    Calls Try.prog 13 #[.int .u64 n] w fun e w' => e = .returned (.tuple #[.bool (toBool n), .bool (cls n == 4)]) ∧ w' = w := by
  by_cases c : cls n = 4
  · have H := hid (show toBool n = (n % 281474976710656 == 2) by simp [toBool, c])
    go_enter Try.func13, Try.ntmps13
    go_wp2_with (first | (go_at_call 9; refine (class_c _ (by omega) (by omega) _).mono ?_; rintro e w' ⟨rfl, rfl⟩) | (go_at_call 36; refine (loadOf_c _ (by omega) (by omega) _).mono ?_; rintro e w' ⟨rfl, rfl⟩))
    go_ret2
    exact ⟨ret_bb H.out.symm (by simp [c]), rfl⟩
  · have H := hid (show toBool n = false by simp [toBool, c])
    have d : (cls n == 4) = false := by simpa using c
    have d' : (cls n != 4) = true := by simpa using c
    go_enter Try.func13, Try.ntmps13
    go_wp2_with (first | (go_at_call 9; refine (class_c _ (by omega) (by omega) _).mono ?_; rintro e w' ⟨rfl, rfl⟩) | (go_at_call 36; refine (loadOf_c _ (by omega) (by omega) _).mono ?_; rintro e w' ⟨rfl, rfl⟩))
    go_ret2
    exact ⟨ret_bb H.out.symm d.symm, rfl⟩
theorem sx_eq (n : Int) : wrap64 (IntKind.u64.wrap (n * 65536)) / 65536 = if n % 281474976710656 < 140737488355328 then n % 281474976710656 else n % 281474976710656 - 281474976710656 := by
  rw [IntKind.wrap_u64]
  unfold wrap64
  split <;> omega
set_option maxHeartbeats 400000 in
theorem toInt_c (n : Int) (h0 : 0 ≤ n) (h1 : n < 18446744073709551616) (w : World) :
    Calls Try.prog 11 #[.int .u64 n] w fun e w' => e = .returned (.tuple #[.int .i64 (toInt n), .bool (cls n == 2)]) ∧ w' = w := by
  by_cases c : cls n = 2
  · have H := hid (show toInt n = (if n % 281474976710656 < 140737488355328 then n % 281474976710656 else n % 281474976710656 - 281474976710656) by simp [toInt, c])
    go_enter Try.func11, Try.ntmps11
    go_wp2_with (first | (go_at_call 9; refine (class_c _ (by omega) (by omega) _).mono ?_; rintro e w' ⟨rfl, rfl⟩) | (go_at_call 36; refine (loadOf_c _ (by omega) (by omega) _).mono ?_; rintro e w' ⟨rfl, rfl⟩))
    go_ret2
    refine ⟨ret_ib ?_ (by simp [c]), rfl⟩
    rw [H.out]
    exact sx_eq n
  · have H := hid (show toInt n = 0 by simp [toInt, c])
    have d : (cls n == 2) = false := by simpa using c
    have d' : (cls n != 2) = true := by simpa using c
    go_enter Try.func11, Try.ntmps11
    go_wp2_with (first | (go_at_call 9; refine (class_c _ (by omega) (by omega) _).mono ?_; rintro e w' ⟨rfl, rfl⟩) | (go_at_call 36; refine (loadOf_c _ (by omega) (by omega) _).mono ?_; rintro e w' ⟨rfl, rfl⟩))
    go_ret2
    exact ⟨ret_ib H.out.symm d.symm, rfl⟩
set_option maxHeartbeats 400000 in
theorem fromInt_c (i : Int) (h0 : -9223372036854775808 ≤ i) (h1 : i ≤ 9223372036854775807) (w : World) :
    Calls Try.prog 26 #[.int .i64 i] w fun e w' => e = .returned (.tuple #[.int .u64 (intW i), .bool (smallB i)]) ∧ w' = w := by
  by_cases c : -140737488355328 ≤ i ∧ i ≤ 140737488355327
  · have H := hid (show smallB i = true by simp [smallB, c])
    have H' := hid (show intW i = 18444773748872577024 + i % 281474976710656 by simp [intW, smallB, c])
    obtain ⟨c1, c2⟩ := c
    go_enter Try.func26, Try.ntmps26
    go_wp2_with (first | (go_at_call 41; refine (join_c _ _ (by omega) (by omega) (by omega) (by omega) _).mono ?_; rintro e w' ⟨rfl, rfl⟩) | (go_at_call 36; refine (loadOf_c _ (by rw [IntKind.wrap_u64]; omega) (by rw [IntKind.wrap_u64]; omega) _).mono ?_; rintro e w' ⟨rfl, rfl⟩))
    go_ret2
    exact ⟨ret_ib (by rw [H'.out, IntKind.wrap_u64]; omega) H.out.symm, rfl⟩
  · have H := hid (show smallB i = false by simp [smallB]; omega)
    have H' := hid (show intW i = 0 by have := H.out; simp [intW, this])
    by_cases c1 : i < -140737488355328
    · clear c
      go_enter Try.func26, Try.ntmps26
      go_wp2
      go_ret2
      exact ⟨ret_ib H'.out.symm H.out.symm, rfl⟩
    · have c2 : 140737488355327 < i := by omega
      clear c
      go_enter Try.func26, Try.ntmps26
      go_wp2
      go_ret2
      exact ⟨ret_ib H'.out.symm H.out.symm, rfl⟩
end Go.Proofs.Ytjkabijejhmhkaa.W
