/- The walk of the statement on what is printed. -/
import Derived.Test.YtmdpnoebpjoiaaaDoorST4
import Derived.Test.YtmdpnoebpjoiaaaDoorRF4
namespace Go.Proofs.YtmdpnoebpjoiaaaDoor.W
open Go.ChangeShapes Go.WideShapes Go.RowKit
set_option maxHeartbeats 400000 in
theorem textPrints_core (i u : Int) (X1 X2 : ByteArray) (w wk : World) (hS : St w wk)
    (c1 : ∀ w, Tabs w → Calls Tryd.prog 9 #[.int .i64 i] w fun e w' => e = .returned (.string X1) ∧ Below w.heap.size w w')
    (c2 : ∀ w, Calls Tryd.prog 10 #[.int .i64 i] w fun e w' => e = .returned (.string X1) ∧ Below w.heap.size w w')
    (c3 : ∀ w, Tabs w → Calls Tryd.prog 11 #[.int .u64 u] w fun e w' => e = .returned (.string X2) ∧ Below w.heap.size w w')
    (c4 : ∀ w, Calls Tryd.prog 12 #[.int .u64 u] w fun e w' => e = .returned (.string X2) ∧ Below w.heap.size w w')
    (c5 : ∀ w, Tabs w → Calls Tryd.prog 13 #[.agg #[.bool true, .int .i64 i, .int .u64 0]] w fun e w' => e = .returned (.string X1) ∧ Below w.heap.size w w')
    (c6 : ∀ w, Tabs w → Calls Tryd.prog 13 #[.agg #[.bool false, .int .i64 0, .int .u64 u]] w fun e w' => e = .returned (.string X2) ∧ Below w.heap.size w w') :
    Calls Tryd.prog 3 #[.int .i64 i, .int .u64 u] wk fun e w' => e = .returned (.bool true) ∧ Below w.heap.size w w' := by
  go_enter Tryd.func3, Tryd.ntmps3
  go_wp2_with (first | (go_at_call 9; (with_reducible refine (c1 _ hS.tabs).mono ?_); rintro e wn ⟨rfl, hb⟩; (replace hS := hS.go hb); clear hb) | (go_at_call 10; (with_reducible refine (c2 _).mono ?_); rintro e wn ⟨rfl, hb⟩; (replace hS := hS.go hb); clear hb) | (go_at_call 11; (with_reducible refine (c3 _ hS.tabs).mono ?_); rintro e wn ⟨rfl, hb⟩; (replace hS := hS.go hb); clear hb) | (go_at_call 12; (with_reducible refine (c4 _).mono ?_); rintro e wn ⟨rfl, hb⟩; (replace hS := hS.go hb); clear hb) | (go_at_call 13; (first | (with_reducible refine (c5 _ hS.tabs).mono ?_) | (with_reducible refine (c6 _ hS.tabs).mono ?_)); rintro e wn ⟨rfl, hb⟩; (replace hS := hS.go hb); clear hb) | (go_at_call 14; refine (awake_c _ hS.tabs).mono ?_; rintro e wn ⟨rfl, hb⟩; (replace hS := hS.go hb); clear hb))
  go_ret
  exact ⟨rfl, hS.below⟩
theorem textPrints_walk (a0 a1 : Int) (h0 : (Lit.int .i64 a0).wf = true) (h1 : (Lit.int .u64 a1).wf = true) (w : World) (ht : Tabs w) :
    Calls Tryd.prog 3 #[.int .i64 a0, .int .u64 a1] w fun e w' => e = .returned (.bool true) ∧ Below w.heap.size w w' := by
  replace h0 := bounds_i64 h0
  replace h1 := bounds_u64 h1
  exact textPrints_core a0 a1 _ _ w w (St.start ht) (fun w h => int_c a0 (by omega) (by omega) w h) (fun w => refInt_c a0 (by omega) (by omega) w) (fun w h => float_c a1 (by omega) (by omega) w h) (fun w => refFloat_c a1 (by omega) (by omega) w)
    (fun w h => text_c true a0 0 (by omega) (by omega) (by omega) (by omega) w h) (fun w h => text_c false 0 a1 (by omega) (by omega) (by omega) (by omega) w h)
end Go.Proofs.YtmdpnoebpjoiaaaDoor.W
