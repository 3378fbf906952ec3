/- The walk of the statement WordBoxes: it returns true at every pattern, whole number, truth, text and handle. -/
import Derived.Test.YtjkabijejhmhkaaRefTxt
import Derived.OpenShut
import Derived.RowKit3
namespace Go.Proofs.Ytjkabijejhmhkaa.W
open Go.ChangeShapes Go.WideShapes Go.RowKit

theorem Grown.drewN {W w' : World} (h : Grown W w') (m : Nat) : Grown W (w'.drewN m) := h
set_option maxHeartbeats 1000000 in
theorem wordBoxes_walk (a0 : Int) (a1 : Int) (a2 : Bool) (a3 : ByteArray) (a4 : Int) (w0 : (Lit.int .u64 a0).wf = true) (w1 : (Lit.int .i64 a1).wf = true) (w3 : a3.size ≤ maxLen) (w4 : (Lit.int .u64 a4).wf = true) (w : World) :
    Calls Try.prog 4 #[.int .u64 a0, .int .i64 a1, .bool a2, .string a3, .int .u64 a4] w fun e w' => e = .returned (.bool true) ∧ Grown w w' := by
  obtain ⟨h0, h0'⟩ := bounds_u64 w0
  obtain ⟨h1, h1'⟩ := bounds_i64 w1
  obtain ⟨h4, h4'⟩ := bounds_u64 w4
  have hs := hid w3
  unfold maxLen at w3
  clear w0 w1 w4
  by_cases s0 : 1000 < a3.size
  · go_enter Try.func4, Try.ntmps4
    go_wp2
    go_ret
    exact ⟨rfl, Grown.refl _⟩
  · go_enter Try.func4, Try.ntmps4
    go_wp2_with (first | (go_at_call 20; refine (fromFloat_c _ (by omega) (by omega) _).mono ?_; rintro e w' ⟨rfl, rfl⟩) | (go_at_call 21; refine (refFromFloat_c _ (by omega) (by omega) _).mono ?_; rintro e w' ⟨rfl, rfl⟩) | (go_at_call 22; refine (fromNil_c _).mono ?_; rintro e w' ⟨rfl, rfl⟩) | (go_at_call 23; refine (refFromNil_c _).mono ?_; rintro e w' ⟨rfl, rfl⟩) | (go_at_call 24; refine (fromBool_c _ _).mono ?_; rintro e w' ⟨rfl, rfl⟩) | (go_at_call 25; refine (refFromBool_c _ _).mono ?_; rintro e w' ⟨rfl, rfl⟩) | (go_at_call 26; refine (fromInt_c _ (by omega) (by omega) _).mono ?_; rintro e w' ⟨rfl, rfl⟩) | (go_at_call 27; refine (refFromInt_c _ (by omega) (by omega) _).mono ?_; rintro e w' ⟨rfl, rfl⟩) | (go_at_call 28; refine (fromText_c _ hs.out _).mono ?_; rintro e w' ⟨rfl, rfl⟩) | (go_at_call 29; refine (refFromText_c _ hs.out _).mono ?_; rintro e w' ⟨rfl, m, rfl⟩) | (go_at_call 30; refine (fromHandle_c _ (by omega) _).mono ?_; rintro e w' ⟨rfl, rfl⟩) | (go_at_call 31; refine (refFromHandle_c _ (by omega) _).mono ?_; rintro e w' ⟨rfl, rfl⟩) | (go_at_call 19; refine (awake_c _).mono ?_; rintro e w' ⟨rfl, rfl⟩))
    go_ret
    exact ⟨rfl, Grown.drewN (Grown.refl _) _⟩
end Go.Proofs.Ytjkabijejhmhkaa.W
