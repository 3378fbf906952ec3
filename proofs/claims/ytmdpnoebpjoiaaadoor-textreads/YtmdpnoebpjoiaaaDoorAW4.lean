/- The contract of the statements' awake: one and a half, there and back. -/
import Derived.Test.YtmdpnoebpjoiaaaDoorZ4
namespace Go.Proofs.YtmdpnoebpjoiaaaDoor.W
open Go.ChangeShapes Go.WideShapes Go.RowKit

theorem exact_24 : exactP 24 (-4) = some 4609434218613702656 := by
  have h1 : exactP 24 (-4) = exactP 3 (-1) := by
    rw [show (24 : Nat) = 3 * 2 ^ 3 by decide, exact_shift]
    rfl
  have l3 : Nat.log2 3 = 1 := (Nat.log2_eq_iff (by decide)).2 ⟨by decide, by decide⟩
  rw [h1, exact_odd 3 (-1) (by decide), l3]
  decide
theorem readF_awake : readF [48, 120, 49, 56, 112, 45, 52] = (4609434218613702656, 0) := by
  rw [readF_ans _ (by decide) (by decide) (by decide) (by decide)]
  have e : bodyR (rest1 [48, 120, 49, 56, 112, 45, 52]) = some (24, -4) := by decide
  rw [e]
  unfold ansF
  simp only [exact_24]
  decide
theorem readI_awake : readI [45, 52, 50] = (-42, 0) := by decide
theorem dec42 : decL 42 = [52, 50] := by
  rw [decL_step (by decide), decL_small (by decide)]
  decide
theorem intT_awake : intT (-42) = [45, 52, 50] := by
  unfold intT
  rw [if_pos (by decide)]
  show 45 :: decL 42 = _
  rw [dec42]
theorem fltT_awake : fltT 4609434218613702656 = [48, 120, 49, 46, 56, 112, 43, 48] := by
  rw [fltT_sign _ (by decide) (by decide) (by decide)]
  have e : ((4609434218613702656 : Int) % 9223372036854775808).toNat = 4609434218613702656 := by decide
  rw [e, posT_num _ (by decide) (by decide)]
  have e1 : fracOf 4609434218613702656 = 2251799813685248 := by unfold fracOf; rw [if_neg (by decide)]
  have e2 : powOf 4609434218613702656 = 0 := by unfold powOf; rw [if_neg (by decide)]; decide
  rw [e1, e2]
  have e3 : powTx 0 = [43, 48] := by
    unfold powTx
    show [43] ++ decL 0 = _
    rw [decL_small (by decide)]; decide
  have e4 : fracTx 2251799813685248 = [46, 56] := by decide
  rw [e3, e4]
  decide
theorem awake_c (w : World) (ht : Tabs w) : Calls Tryd.prog 14 #[] w fun e w' => e = .returned (.bool true) ∧ Below w.heap.size w w' := by
  have c1 := fun w ht => parseFloat_c ⟨#[48, 120, 49, 56, 112, 45, 52]⟩ (by decide) w ht
  have c2 := fun w => parseInt_c ⟨#[45, 52, 50]⟩ (by decide) w
  have c3 := fun w ht => float_c 4609434218613702656 (by decide) (by decide) w ht
  have c4 := fun w ht => int_c (-42) (by decide) (by decide) w ht
  have e1 : readF (⟨#[48, 120, 49, 56, 112, 45, 52]⟩ : ByteArray).data.toList = (4609434218613702656, 0) := readF_awake
  have e2 : readI (⟨#[45, 52, 50]⟩ : ByteArray).data.toList = (-42, 0) := readI_awake
  rw [e1] at c1
  rw [e2] at c2
  rw [fltT_awake] at c3
  rw [intT_awake] at c4
  clear e1 e2
  go_enter Tryd.func14, Tryd.ntmps14
  go_wp2_with (first | (go_at_call 17; refine (c1 _ ht).mono ?_; rintro e w1 ⟨rfl, hb⟩) | (go_at_call 15; refine (c2 _).mono ?_; rintro e w2 ⟨rfl, hb2⟩; subst hb2) | (go_at_call 11; refine (c3 _ (ht.below hb)).mono ?_; rintro e w3 ⟨rfl, hb3⟩) | (go_at_call 9; refine (c4 _ ((ht.below hb).below hb3)).mono ?_; rintro e w4 ⟨rfl, hb4⟩))
  go_ret
  exact ⟨rfl, bel_trans (bel_trans hb hb3) hb4⟩
end Go.Proofs.YtmdpnoebpjoiaaaDoor.W
