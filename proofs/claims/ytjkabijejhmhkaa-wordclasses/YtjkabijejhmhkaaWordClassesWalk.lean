/- The walk of the statement WordClasses: it returns true at every pattern. -/
import Derived.Test.YtjkabijejhmhkaaToTxt
import Derived.Test.YtjkabijejhmhkaaRefToTxt
import Derived.OpenShut
namespace Go.Proofs.Ytjkabijejhmhkaa.W
open Go.ChangeShapes Go.WideShapes Go.RowKit

set_option maxHeartbeats 1000000 in
theorem wordClasses_walk (a0 : Int) (w0 : (Lit.int .u64 a0).wf = true) (w : World) :
    Calls Try.prog 3 #[.int .u64 a0] w fun e w' => e = .returned (.bool true) ∧ Below w.heap.size w w' := by
  obtain ⟨h0, h0'⟩ := bounds_u64 w0
  clear w0
  go_enter Try.func3, Try.ntmps3
  go_wp2_with (first | (go_at_call 9; refine (class_c _ (by omega) (by omega) _).mono ?_; rintro e w' ⟨rfl, rfl⟩) | (go_at_call 10; refine (refClass_c _ (by omega) (by omega) _).mono ?_; rintro e w' ⟨rfl, m, rfl⟩) | (go_at_call 11; refine (toInt_c _ (by omega) (by omega) _).mono ?_; rintro e w' ⟨rfl, rfl⟩) | (go_at_call 12; refine (refToInt_c _ (by omega) (by omega) _).mono ?_; rintro e w' ⟨rfl, m, rfl⟩) | (go_at_call 13; refine (toBool_c _ (by omega) (by omega) _).mono ?_; rintro e w' ⟨rfl, rfl⟩) | (go_at_call 14; refine (refToBool_c _ (by omega) (by omega) _).mono ?_; rintro e w' ⟨rfl, m, rfl⟩) | (go_at_call 15; refine (toText_c _ (by omega) (by omega) _).mono ?_; rintro e w1 ⟨rfl, hb1⟩) | (go_at_call 16; refine (refToText_c _ (by omega) (by omega) _).mono ?_; rintro e w2 ⟨rfl, hb2⟩) | (go_at_call 17; refine (toHandle_c _ (by omega) (by omega) _).mono ?_; rintro e w' ⟨rfl, rfl⟩) | (go_at_call 18; refine (refToHandle_c _ (by omega) (by omega) _).mono ?_; rintro e w' ⟨rfl, m, rfl⟩) | (go_at_call 19; refine (awake_c _).mono ?_; rintro e w' ⟨rfl, rfl⟩))
  go_ret
  exact ⟨rfl, below_drewN (((below_drewN (Below.refl _ _) _).trans hb1).trans (hb2.mono hb1.size)) _⟩
end Go.Proofs.Ytjkabijejhmhkaa.W
