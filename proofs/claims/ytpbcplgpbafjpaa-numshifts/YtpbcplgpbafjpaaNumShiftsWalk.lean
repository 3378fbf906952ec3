/- The walk of the statement NumShifts: it returns true at every two whole numbers. -/
import Derived.Test.YtpbcplgpbafjpaaNumAw
import Derived.Test.YtpbcplgpbafjpaaRefS3
import Derived.OpenShut
import Derived.RowKit3
namespace Go.Proofs.Ytpbcplgpbafjpaa.W
open Go.ChangeShapes Go.WideShapes Go.RowKit
set_option maxHeartbeats 2000000 in
theorem numShifts_core (a b x e y f : Int) (w : World)
    (c1 : ∀ w, Calls Try.prog 24 #[.int .i64 a, .int .i64 b] w fun o w' => o = .returned (.tuple #[.int .i64 x, .int .i64 e]) ∧ w' = w)
    (c2 : ∀ w, Calls Try.prog 25 #[.int .i64 a, .int .i64 b] w fun o w' => o = .returned (.tuple #[.int .i64 x, .int .i64 e]) ∧ w' = w)
    (c3 : ∀ w, Calls Try.prog 26 #[.int .i64 a, .int .i64 b] w fun o w' => o = .returned (.tuple #[.int .i64 y, .int .i64 f]) ∧ w' = w)
    (c4 : ∀ w, Calls Try.prog 27 #[.int .i64 a, .int .i64 b] w fun o w' => o = .returned (.tuple #[.int .i64 y, .int .i64 f]) ∧ w' = w) :
    Calls Try.prog 5 #[.int .i64 a, .int .i64 b] w fun e w' => e = .returned (.bool true) ∧ Gr w w' := by
  go_enter Try.func5, Try.ntmps5
  go_wp2_with (first | (go_at_call 24; (with_reducible refine (c1 _).mono ?_); rintro e w' ⟨rfl, rfl⟩) | (go_at_call 25; (with_reducible refine (c2 _).mono ?_); rintro e w' ⟨rfl, rfl⟩) | (go_at_call 26; (with_reducible refine (c3 _).mono ?_); rintro e w' ⟨rfl, rfl⟩) | (go_at_call 27; (with_reducible refine (c4 _).mono ?_); rintro e w' ⟨rfl, rfl⟩) | (go_at_call 19; refine (awake_c _).mono ?_; rintro e w' ⟨rfl, hg⟩))
  go_ret
  exact ⟨rfl, hg⟩
set_option linter.unusedVariables false in
theorem numShifts_walk (a0 : Int) (a1 : Int) (w0 : (Lit.int .i64 a0).wf = true) (w1 : (Lit.int .i64 a1).wf = true) (w : World) :
    Calls Try.prog 5 #[.int .i64 a0, .int .i64 a1] w fun e w' => e = .returned (.bool true) ∧ Below w.heap.size w w' := by
  obtain ⟨h0, h0'⟩ := bounds_i64 w0
  refine Calls.mono (R := fun e w' => e = .returned (.bool true) ∧ Gr w w') ?_ (fun _ _ ⟨h, g⟩ => ⟨h, g.below⟩)
  exact numShifts_core a0 a1 _ _ _ _ w (shl_c a0 a1) (refShl_c a0 a1 (by omega) (by omega)) (shr_c a0 a1) (refShr_c a0 a1 (by omega) (by omega))
end Go.Proofs.Ytpbcplgpbafjpaa.W
