/- Contracts of package soft and of its reference: widths. -/
import Derived.Test.YtignkihhhflelaaF2
namespace Go.Proofs.Ytignkihhhflelaa.W
open Go.ChangeShapes Go.WideShapes Go.RowKit

theorem run_frombits32 (n : Int) (w : World) : (callFunc 44 #[.int .u32 n]).run Try.prog w = .ok (.value (.float .f32 n.toNat)) w := by
  rw [run_callFunc_extern Try.func44 (e := Extern.MathFloatBits.float32frombits) (by kernel_rfl) (by kernel_rfl) (by kernel_rfl) (by kernel_rfl)]
  rfl
theorem run_bits32 (x : Nat) (w : World) : (callFunc 43 #[.float .f32 x]).run Try.prog w = .ok (.value (.int .u32 (x : Nat))) w := by
  rw [run_callFunc_extern Try.func43 (e := Extern.MathFloatBits.float32bits) (by kernel_rfl) (by kernel_rfl) (by kernel_rfl) (by kernel_rfl)]
  rfl
set_option maxHeartbeats 800000 in
theorem softWide_c (n : Int) (h1 : n < 4294967296) (w : World) :
    Calls Try.prog 28 #[.int .u32 n] w fun e w' => e = .returned (.int .u64 (wideI n)) ∧ ∃ m, w' = w.drewN m := by
  have hb := run_frombits32 n
  have hcv := fun w => run_wide Try.prog 46 41 n.toNat (by rw [Try.underlying46]; rfl) Try.underlying41 (wide_fin (by omega)) w
  go_enter Try.func28, Try.ntmps28
  go_wp2_with (go_at_call 37; refine (pattern_c _ _).mono ?_; rintro e w' ⟨rfl, rfl⟩)
  go_ret
  exact ⟨ret_int (fltW_wres n _), _, rfl⟩
set_option maxHeartbeats 800000 in
theorem softNarrow_in (a : Int) (r : Nat) (h0 : 0 ≤ a) (hn : nanB a = false) (hr : floatToFloatBits .f64 a.toNat .f32 = some r) (w : World) :
    Calls Try.prog 26 #[.int .u64 a] w fun e w' => e = .returned (.int .u32 (r : Nat)) ∧ w' = w := by
  have hb := run_bits32 r
  have hcv : ∀ w, (convert 41 46 (.float .f64 a.toNat)).run Try.prog w = .ok (.float .f32 r) w := fun w => run_convert_float_float w 41 46 .f64 .f32 a.toNat r (by rw [Try.underlying41]; rfl) Try.underlying46 hr
  have hn' : nanB ((a.toNat : Nat) : Int) = false := by rw [Int.toNat_of_nonneg h0]; exact hn
  go_enter Try.func26, Try.ntmps26
  go_wp2_with (first | (go_at_call 38; refine (double_c _ _).mono ?_; rintro e w' ⟨rfl, rfl⟩) | (go_at_call 42; refine (isNaN_f _ _).mono ?_; rw [hn']; rintro e w' ⟨rfl, rfl⟩))
  go_ret
  exact ⟨rfl, rfl⟩
end Go.Proofs.Ytignkihhhflelaa.W
