import Derived.Test.YtbgabpgohkcahaaRefClsJ
import Derived.Test.YtbgabpgohkcahaaTxtJ
import Derived.Test.YtbgabpgohkcahaaIsJ
/- Contracts of the reference's faces: each returns what package word's own does; the world has at most drawn. -/
namespace Go.Proofs.Ytbgabpgohkcahaa.W
open Go.ChangeShapes Go.WideShapes Go.RowKit

set_option maxHeartbeats 400000 in
theorem refFromFloat_c (n : Int) (h0 : 0 ≤ n) (h1 : n < 18446744073709551616) (w : World) :
    Calls Try.prog 10 #[.int .u64 n] w fun e w' => e = .returned (.int .u64 (fltW n)) ∧ w' = w := by
  cases c : nanB n
  · have H := hid (show fltW n = n by simp [fltW, c])
    go_enter Try.func10, Try.ntmps10
    go_wp2_with (go_at_call 25; refine (refNaN_c _ (by omega) (by omega) _).mono ?_; rintro e w' ⟨rfl, rfl⟩)
    go_ret
    exact ⟨ret_int H.out.symm, rfl⟩
  · have H := hid (show fltW n = 9221120237041090560 by simp [fltW, c])
    go_enter Try.func10, Try.ntmps10
    go_wp2_with (go_at_call 25; refine (refNaN_c _ (by omega) (by omega) _).mono ?_; rintro e w' ⟨rfl, rfl⟩)
    go_ret
    exact ⟨ret_int H.out.symm, rfl⟩
end Go.Proofs.Ytbgabpgohkcahaa.W
