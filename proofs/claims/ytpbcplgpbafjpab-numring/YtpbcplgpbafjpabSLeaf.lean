/- Contracts of the small functions beneath package soft and its reference: doubles by their patterns, and back. -/
import Derived.Test.YtpbcplgpbafjpabProg
import Derived.Test.YtpbcplgpbafjpabFl
import Derived.WalkKit
import Derived.WalkLawsBesides
import Derived.Laws.Externs
import Derived.Laws.BitsAllLaws
import Derived.KernelRfl
import Derived.Deep.QuietTactic
import Derived.BigQuiet
namespace Go.Proofs.Ytpbcplgpbafjpab.W
open Go.ChangeShapes Go.WideShapes Go.RowKit

theorem ret_bool {a b : Bool} (h : a = b) : Ending.returned (.bool a) = .returned (.bool b) := by rw [h]
theorem ret_int {k : IntKind} {a b : Int} (h : a = b) : Ending.returned (.int k a) = .returned (.int k b) := by rw [h]
theorem ret_float {k : FloatKind} {a b : Nat} (h : a = b) : Ending.returned (.float k a) = .returned (.float k b) := by rw [h]
theorem ret_ii {k l : IntKind} {a a' b b' : Int} (h : a = a') (g : b = b') : Ending.returned (.tuple #[.int k a, .int l b]) = .returned (.tuple #[.int k a', .int l b']) := by rw [h, g]
theorem hid {p : Prop} (h : p) : Hid p := h

theorem run_frombits64 (n : Int) (w : World) : (callFunc 45 #[.int .u64 n]).run Try.prog w = .ok (.value (.float .f64 n.toNat)) w := by
  rw [run_callFunc_extern Try.func45 (e := Extern.MathFloatBits.float64frombits) (by kernel_rfl) (by kernel_rfl) (by kernel_rfl) (by kernel_rfl)]
  rfl
theorem run_bits64 (x : Nat) (w : World) : (callFunc 43 #[.float .f64 x]).run Try.prog w = .ok (.value (.int .u64 (x : Nat))) w := by
  rw [run_callFunc_extern Try.func43 (e := Extern.MathFloatBits.float64bits) (by kernel_rfl) (by kernel_rfl) (by kernel_rfl) (by kernel_rfl)]
  rfl
theorem run_archFloor (x : Nat) (w : World) : (callFunc 55 #[.float .f64 x]).run Try.prog w = .ok (.value (.float .f64 (flres Try.prog x w))) (w.drewN (fldraw x)) := by
  rw [run_callFunc_extern Try.func55 (e := Extern.MathFloor.toIntegral "math.archFloor" .down) (by kernel_rfl) (by kernel_rfl) (by kernel_rfl) (by kernel_rfl), run_floor]
  rfl

set_option maxHeartbeats 400000 in
theorem double_c (n : Int) (w : World) :
    Calls Try.prog 40 #[.int .u64 n] w fun e w' => e = .returned (.float .f64 n.toNat) ∧ w' = w := by
  have hx := run_frombits64 n
  go_enter Try.func40, Try.ntmps40
  go_wp2
  go_ret
  exact ⟨rfl, rfl⟩
set_option maxHeartbeats 400000 in
theorem isNaN_f (x : Nat) (w : World) :
    Calls Try.prog 42 #[.float .f64 x] w fun e w' => e = .returned (.bool (nanB (x : Nat))) ∧ w' = w := by
  go_enter Try.func42, Try.ntmps42
  go_wp2
  go_ret
  exact ⟨ret_bool (isNaN_eq x), rfl⟩
set_option maxHeartbeats 400000 in
theorem pattern_c (x : Nat) (w : World) :
    Calls Try.prog 37 #[.float .f64 x] w fun e w' => e = .returned (.int .u64 (fltW (x : Nat))) ∧ w' = w := by
  have hx := run_bits64 x
  cases hn : nanB (x : Nat) with
  | true =>
    go_enter Try.func37, Try.ntmps37
    go_wp2_with (go_at_call 42; refine (isNaN_f _ _).mono ?_; rintro e w' ⟨rfl, rfl⟩)
    go_ret
    exact ⟨ret_int (by simp [fltW, hn]), rfl⟩
  | false =>
    go_enter Try.func37, Try.ntmps37
    go_wp2_with (go_at_call 42; refine (isNaN_f _ _).mono ?_; rintro e w' ⟨rfl, rfl⟩)
    go_ret
    exact ⟨ret_int (by simp [fltW, hn]), rfl⟩
set_option maxHeartbeats 400000 in
theorem floor_c (x : Nat) (w : World) :
    Calls Try.prog 50 #[.float .f64 x] w fun e w' => e = .returned (.float .f64 (flres Try.prog x w)) ∧ w' = w.drewN (fldraw x) := by
  have hx := run_archFloor x
  go_enter Try.func50, Try.ntmps50
  go_wp2
  go_ret
  exact ⟨rfl, rfl⟩
theorem nan_ref1 (n : Int) (h : n / 4503599627370496 % 2048 = 2047) : (n % 4503599627370496 != 0) = nanB n := by
  unfold nanB
  rw [Bool.eq_iff_iff]
  simp only [bne_iff_ne, ne_eq, decide_eq_true_eq]
  omega
theorem nan_ref2 (n : Int) (h : ¬ n / 4503599627370496 % 2048 = 2047) : false = nanB n := by
  unfold nanB
  rw [Bool.eq_iff_iff]
  simp only [Bool.false_eq_true, decide_eq_true_eq, false_iff]
  omega
end Go.Proofs.Ytpbcplgpbafjpab.W
