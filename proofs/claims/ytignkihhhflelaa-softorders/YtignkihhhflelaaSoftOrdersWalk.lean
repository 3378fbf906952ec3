/- The walk of the statement SoftOrders: it returns true at every two patterns. -/
import Derived.Test.YtignkihhhflelaaAwake
import Derived.OpenShut
import Derived.RowKit3
namespace Go.Proofs.Ytignkihhhflelaa.W
open Go.ChangeShapes Go.WideShapes Go.RowKit

theorem Grown.drewN {W w' : World} (h : Grown W w') (m : Nat) : Grown W (w'.drewN m) := h
set_option maxHeartbeats 1000000 in
theorem softOrders_walk (a0 : Int) (a1 : Int) (w0 : (Lit.int .u64 a0).wf = true) (w1 : (Lit.int .u64 a1).wf = true) (w : World) :
    Calls Try.prog 5 #[.int .u64 a0, .int .u64 a1] w fun e w' => e = .returned (.bool true) ∧ Grown w w' := by
  obtain ⟨h0, h0'⟩ := bounds_u64 w0
  obtain ⟨h1, h1'⟩ := bounds_u64 w1
  clear w0 w1
  go_enter Try.func5, Try.ntmps5
  go_wp2_with (first | (go_at_call 30; refine (softLess_c _ _ _).mono ?_; rintro e w' ⟨rfl, rfl⟩) | (go_at_call 32; refine (softLessEq_c _ _ _).mono ?_; rintro e w' ⟨rfl, rfl⟩) | (go_at_call 34; refine (softEqual_c _ _ _).mono ?_; rintro e w' ⟨rfl, rfl⟩) | (go_at_call 31; refine (refLess_c _ _ _).mono ?_; rintro e w' ⟨rfl, rfl⟩) | (go_at_call 33; refine (refLessEq_c _ _ _).mono ?_; rintro e w' ⟨rfl, rfl⟩) | (go_at_call 35; refine (refEqual_c _ _ _).mono ?_; rintro e w' ⟨rfl, rfl⟩) | (go_at_call 21; refine (awake_c _).mono ?_; rintro e w' ⟨rfl, m, rfl⟩))
  go_ret
  exact ⟨rfl, Grown.drewN (Grown.refl _) _⟩
end Go.Proofs.Ytignkihhhflelaa.W
