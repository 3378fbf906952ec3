/- SitePairs: the walk. -/
import Derived.Test.YtmpbllaijgekmaaSi6
import Derived.Test.YtmpbllaijgekmaaSiOpen
namespace Go.Proofs.Ytmpbllaijgekmaa.W
open Go.ChangeShapes Go.WideShapes Go.RowKit Si
set_option linter.unusedVariables false
theorem bel_drewN (w : World) (m : Nat) : Below w.heap.size w (w.drewN m) := ⟨rfl, rfl, rfl, Nat.le_refl _, fun _ _ => rfl⟩
set_option maxHeartbeats 1000000 in
theorem sitePairs_walk (a : Int) (x0 : (Lit.int .u64 a).wf = true) (b : Int) (x1 : (Lit.int .u64 b).wf = true) (w : World) : Calls Try.prog 4 #[.int .u64 a, .int .u64 b] w fun e w' => e = .returned (.bool true) ∧ Below w.heap.size w w' := by
  obtain ⟨a0, a1⟩ := wf_u64 x0
  obtain ⟨b0, b1⟩ := wf_u64 x1
  have c1 := pair_c a b a0 a1 b0 b1
  have c2 := pair_c b a b0 b1 a0 a1
  have c3 := refPair_c a b a0 a1 b0 b1
  rw [pairOf_comm] at c2
  generalize pairOf a b = k at *
  clear a0 a1 b0 b1 x0 x1
  go_enter Try.func4, Try.ntmps4
  go_wp2_with (first | (go_at_call 15; first | ((with_reducible refine (c1 _).mono ?_); rintro e w' ⟨rfl, hw⟩; (have hw' := hw.symm); subst hw'; clear hw) | ((with_reducible refine (c2 _).mono ?_); rintro e w' ⟨rfl, hw⟩; (have hw' := hw.symm); subst hw'; clear hw)) | (go_at_call 16; (with_reducible refine (c3 _).mono ?_); rintro e w' ⟨rfl, m, hw⟩; subst hw) | (go_at_call 14; (with_reducible refine (awake_c _).mono ?_); rintro e w4 ⟨rfl, b4⟩))
  go_ret
  exact ⟨rfl, (bel_drewN w _).trans b4⟩
end Go.Proofs.Ytmpbllaijgekmaa.W
