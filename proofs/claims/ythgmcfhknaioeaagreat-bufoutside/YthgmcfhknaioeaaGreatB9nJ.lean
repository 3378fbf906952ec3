import Derived.Test.YthgmcfhknaioeaaGreatB9mJ
import Derived.Test.YthgmcfhknaioeaaGreatFlBJ
import Derived.Test.YthgmcfhknaioeaaGreatFxBJ
import Derived.Laws.Externs
import Derived.Laws.BitsAllLaws
import Derived.KernelRfl
/- Package soft's FromInt, Wide and Narrow, beside Plain. -/
namespace Go.Proofs.YthgmcfhknaioeaaGreat.W.Sf
open Go.ChangeShapes Go.WideShapes Go.RowKit
set_option linter.unusedVariables false
theorem ret_float {k : FloatKind} {a b : Nat} (h : a = b) : Ending.returned (.float k a) = .returned (.float k b) := by rw [h]
theorem run_frombits64 (n : Int) (w : World) : (callFunc 146 #[.int .u64 n]).run Tryz.prog w = .ok (.value (.float .f64 n.toNat)) w := by
  rw [run_callFunc_extern Tryz.func146 (e := Extern.MathFloatBits.float64frombits) (by kernel_rfl) (by kernel_rfl) (by kernel_rfl) (by kernel_rfl)]
  rfl
theorem run_bits64 (x : Nat) (w : World) : (callFunc 145 #[.float .f64 x]).run Tryz.prog w = .ok (.value (.int .u64 (x : Nat))) w := by
  rw [run_callFunc_extern Tryz.func145 (e := Extern.MathFloatBits.float64bits) (by kernel_rfl) (by kernel_rfl) (by kernel_rfl) (by kernel_rfl)]
  rfl
set_option maxHeartbeats 400000 in
theorem double_c (n : Int) (w : World) :
    Calls Tryz.prog 135 #[.int .u64 n] w fun e w' => e = .returned (.float .f64 n.toNat) ∧ w' = w := by
  have hx := run_frombits64 n
  go_enter Tryz.func135, Tryz.ntmps135
  go_wp2
  go_ret
  exact ⟨rfl, rfl⟩
set_option maxHeartbeats 400000 in
theorem isNaN_f (x : Nat) (w : World) :
    Calls Tryz.prog 136 #[.float .f64 x] w fun e w' => e = .returned (.bool (nanB (x : Nat))) ∧ w' = w := by
  go_enter Tryz.func136, Tryz.ntmps136
  go_wp2
  go_ret
  exact ⟨ret_bool (isNaN_eq x), rfl⟩
set_option maxHeartbeats 400000 in
theorem pattern_c (x : Nat) (w : World) :
    Calls Tryz.prog 133 #[.float .f64 x] w fun e w' => e = .returned (.int .u64 (fltW (x : Nat))) ∧ w' = w := by
  have hx := run_bits64 x
  cases hn : nanB (x : Nat) with
  | true =>
    go_enter Tryz.func133, Tryz.ntmps133
    go_wp2_with (go_at_call 136; refine (isNaN_f _ _).mono ?_; rintro e w' ⟨rfl, rfl⟩)
    go_ret
    exact ⟨ret_int (by simp [fltW, hn]), rfl⟩
  | false =>
    go_enter Tryz.func133, Tryz.ntmps133
    go_wp2_with (go_at_call 136; refine (isNaN_f _ _).mono ?_; rintro e w' ⟨rfl, rfl⟩)
    go_ret
    exact ⟨ret_int (by simp [fltW, hn]), rfl⟩
/-- what FromInt answers -/
def fromI (i : Int) : Int := (floatOfInt .f64 i : Nat)
theorem fromI_range (i : Int) : 0 ≤ fromI i ∧ fromI i < 18446744073709551616 := by
  have : floatOfInt .f64 i < 18446744073709551616 := write_lt (.number (i < 0) i.natAbs 0)
  unfold fromI; omega
theorem fromI_plain (i : Int) : fltW (floatOfInt .f64 i : Nat) = fromI i := by
  have : nanB (floatOfInt .f64 i : Nat) = false := nearest_plain _ _ _
  simp [fltW, this, fromI]
set_option maxHeartbeats 800000 in
theorem softFromInt_c (i : Int) (w : World) :
    Calls Tryz.prog 132 #[.int .i64 i] w fun e w' => e = .returned (.int .u64 (fromI i)) ∧ w' = w := by
  go_enter Tryz.func132, Tryz.ntmps132
  go_wp2_with (go_at_call 133; refine (pattern_c _ _).mono ?_; rintro e w' ⟨rfl, rfl⟩)
  go_ret
  exact ⟨ret_int (fromI_plain i), rfl⟩
theorem run_frombits32 (n : Int) (w : World) : (callFunc 134 #[.int .u32 n]).run Tryz.prog w = .ok (.value (.float .f32 n.toNat)) w := by
  rw [run_callFunc_extern Tryz.func134 (e := Extern.MathFloatBits.float32frombits) (by kernel_rfl) (by kernel_rfl) (by kernel_rfl) (by kernel_rfl)]
  rfl
theorem run_bits32 (x : Nat) (w : World) : (callFunc 137 #[.float .f32 x]).run Tryz.prog w = .ok (.value (.int .u32 (x : Nat))) w := by
  rw [run_callFunc_extern Tryz.func137 (e := Extern.MathFloatBits.float32bits) (by kernel_rfl) (by kernel_rfl) (by kernel_rfl) (by kernel_rfl)]
  rfl
set_option maxHeartbeats 800000 in
theorem softWide_c (n : Int) (h1 : n < 4294967296) (w : World) :
    Calls Tryz.prog 102 #[.int .u32 n] w fun e w' => e = .returned (.int .u64 (wideI n)) ∧ ∃ m, w' = w.drewN m := by
  have hb := run_frombits32 n
  have hcv := fun w => run_wide Tryz.prog 164 163 n.toNat (by rw [Tryz.underlying164]; rfl) Tryz.underlying163 (wide_fin (by omega)) w
  go_enter Tryz.func102, Tryz.ntmps102
  go_wp2_with (go_at_call 133; refine (pattern_c _ _).mono ?_; rintro e w' ⟨rfl, rfl⟩)
  go_ret
  exact ⟨ret_int (fltW_wres n _), _, rfl⟩
set_option maxHeartbeats 800000 in
theorem softNarrow_in (a : Int) (r : Nat) (h0 : 0 ≤ a) (hn : nanB a = false) (hr : floatToFloatBits .f64 a.toNat .f32 = some r) (w : World) :
    Calls Tryz.prog 104 #[.int .u64 a] w fun e w' => e = .returned (.int .u32 (r : Nat)) ∧ w' = w := by
  have hb := run_bits32 r
  have hcv : ∀ w, (convert 163 164 (.float .f64 a.toNat)).run Tryz.prog w = .ok (.float .f32 r) w := fun w => run_convert_float_float w 163 164 .f64 .f32 a.toNat r (by rw [Tryz.underlying163]; rfl) Tryz.underlying164 hr
  have hn' : nanB ((a.toNat : Nat) : Int) = false := by rw [Int.toNat_of_nonneg h0]; exact hn
  go_enter Tryz.func104, Tryz.ntmps104
  go_wp2_with (first | (go_at_call 135; refine (double_c _ _).mono ?_; rintro e w' ⟨rfl, rfl⟩) | (go_at_call 136; refine (isNaN_f _ _).mono ?_; rw [hn']; rintro e w' ⟨rfl, rfl⟩))
  go_ret
  exact ⟨rfl, rfl⟩
theorem bel_drewN (w : World) (m : Nat) : Below w.heap.size w (w.drewN m) := ⟨rfl, rfl, rfl, Nat.le_refl _, fun _ _ => rfl⟩
theorem one_fromI : fromI 1 = 4607182418800017408 := by decide +kernel
theorem wide_nought : wideI 0 = 0 := by decide +kernel
theorem wide_one : wideI 1065353216 = 4607182418800017408 := by decide +kernel
theorem narrow_one (w : World) : Calls Tryz.prog 104 #[.int .u64 4607182418800017408] w fun e w' => e = .returned (.int .u32 ((1065353216 : Nat) : Int)) ∧ w' = w := softNarrow_in 4607182418800017408 1065353216 (by decide) (by decide) (by decide +kernel) w
end Go.Proofs.YthgmcfhknaioeaaGreat.W.Sf
