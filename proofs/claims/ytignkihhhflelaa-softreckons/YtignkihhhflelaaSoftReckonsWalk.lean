/- The walk of the statement SoftReckons: it returns true at every two patterns. -/
import Derived.Test.YtignkihhhflelaaAwake
import Derived.OpenShut
import Derived.RowKit3
namespace Go.Proofs.Ytignkihhhflelaa.W
open Go.ChangeShapes Go.WideShapes Go.RowKit

theorem Grown.drewN {W w' : World} (h : Grown W w') (m : Nat) : Grown W (w'.drewN m) := h
set_option maxHeartbeats 1000000 in
theorem softReckons_walk (a0 : Int) (a1 : Int) (w0 : (Lit.int .u64 a0).wf = true) (w1 : (Lit.int .u64 a1).wf = true) (w : World) :
    Calls Try.prog 3 #[.int .u64 a0, .int .u64 a1] w fun e w' => e = .returned (.bool true) ∧ Grown w w' := by
  obtain ⟨h0, h0'⟩ := bounds_u64 w0
  obtain ⟨h1, h1'⟩ := bounds_u64 w1
  clear w0 w1
  go_enter Try.func3, Try.ntmps3
  go_wp2_with (first | (go_at_call 9; refine (softAdd_c _ _ _).mono ?_; rintro e w' ⟨rfl, m, rfl⟩) | (go_at_call 11; refine (softSub_c _ _ _).mono ?_; rintro e w' ⟨rfl, m, rfl⟩) | (go_at_call 13; refine (softMul_c _ _ _).mono ?_; rintro e w' ⟨rfl, m, rfl⟩) | (go_at_call 15; refine (softDiv_c _ _ _).mono ?_; rintro e w' ⟨rfl, m, rfl⟩) | (go_at_call 17; refine (softNeg_c _ (by omega) (by omega) _).mono ?_; rintro e w' ⟨rfl, rfl⟩) | (go_at_call 19; refine (softFloor_c _ (by omega) _).mono ?_; rintro e w' ⟨rfl, m, rfl⟩) | (go_at_call 10; refine (refAdd_c _ _ _).mono ?_; rintro e w' ⟨rfl, m, rfl⟩) | (go_at_call 12; refine (refSub_c _ _ _).mono ?_; rintro e w' ⟨rfl, m, rfl⟩) | (go_at_call 14; refine (refMul_c _ _ _).mono ?_; rintro e w' ⟨rfl, m, rfl⟩) | (go_at_call 16; refine (refDiv_c _ _ _).mono ?_; rintro e w' ⟨rfl, m, rfl⟩) | (go_at_call 18; refine (refNeg_c _ (by omega) (by omega) _).mono ?_; rintro e w' ⟨rfl, rfl⟩) | (go_at_call 20; refine (refFloor_c _ (by omega) (by omega) _).mono ?_; rintro e w' ⟨rfl, m, rfl⟩) | (go_at_call 21; refine (awake_c _).mono ?_; rintro e w' ⟨rfl, m, rfl⟩))
  go_ret
  exact ⟨rfl, Grown.drewN (Grown.refl _) _⟩
end Go.Proofs.Ytignkihhhflelaa.W
