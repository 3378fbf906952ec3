/- The statements' own 'awake': one and two make three, two's whole part is two, 2^53 + 1 becomes 2^53. -/
import Derived.Test.YtignkihhhflelaaSoft
namespace Go.Proofs.Ytignkihhhflelaa.W
open Go.ChangeShapes Go.WideShapes Go.RowKit

theorem awake1 : floatToIntVal .f64 (4611686018427387904 : Int).toNat .i64 = some 2 := by decide +kernel
theorem awake2 : fitsB 4611686018427387904 = true := by decide +kernel
theorem awake3 : opI .add 4607182418800017408 4611686018427387904 = 4613937818241073152 := by decide +kernel
theorem awake4 : fromI 9007199254740993 = 4845873199050653696 := by decide +kernel
set_option maxHeartbeats 800000 in
theorem awake_c (w : World) :
    Calls Try.prog 21 #[] w fun e w' => e = .returned (.bool true) ∧ ∃ m, w' = w.drewN m := by
  have h3 := awake3
  have h4 := awake4
  go_enter Try.func21, Try.ntmps21
  go_wp2_with (first | (go_at_call 22; refine (softTrunc_in _ _ awake1 awake2 _).mono ?_; rintro e w' ⟨rfl, rfl⟩) | (go_at_call 9; refine (softAdd_c _ _ _).mono ?_; rintro e w' ⟨rfl, m, rfl⟩) | (go_at_call 24; refine (softFromInt_c _ _).mono ?_; rintro e w' ⟨rfl, rfl⟩))
  go_ret
  exact ⟨rfl, _, rfl⟩
end Go.Proofs.Ytignkihhhflelaa.W
