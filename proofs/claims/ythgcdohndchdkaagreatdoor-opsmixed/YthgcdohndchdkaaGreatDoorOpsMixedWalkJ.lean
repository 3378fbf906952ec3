import Derived.Test.YthgcdohndchdkaaGreatDoorOpsMixedAJ
/- OpsMixed: the walk, for whatever whole number and pattern. -/
namespace Go.Proofs.YthgcdohndchdkaaGreatDoor.W.Nu
open Go.ChangeShapes Go.WideShapes Go.RowKit Go.Shelf
theorem opsMixed_walk (a0 a1 : Int) (w0 : (Lit.int .i64 a0).wf = true) (w1 : (Lit.int .u64 a1).wf = true) (W : World) : Calls Tryz.prog 4 #[.int .i64 a0, .int .u64 a1] W fun e w' => e = .returned (.bool true) ∧ Below W.heap.size W w' := by
  have hi := wf_i64' w0
  have hb := wf_u64' w1
  have e1 : ordI true a0 0 false 0 (Go.Proofs.YthgcdohndchdkaaGreatDoor.W.fltW a1) = ordM a0 (Go.Proofs.YthgcdohndchdkaaGreatDoor.W.fltW a1) := rfl
  have e2 : ordI false 0 (Go.Proofs.YthgcdohndchdkaaGreatDoor.W.fltW a1) true a0 0 = turnI (ordM a0 (Go.Proofs.YthgcdohndchdkaaGreatDoor.W.fltW a1)) := rfl
  refine mixed_core a0 a1 hi.1 hi.2 hb.1 hb.2 _ _ _ _ _ (!(equalN true a0 0 false 0 (Go.Proofs.YthgcdohndchdkaaGreatDoor.W.fltW a1))) _ rfl ?_ ⟨rfl, rfl, rfl, rfl, rfl, ?_, rfl⟩ W
  · show _ ∨ _
    unfold lessN lessEqN equalN
    rw [e1, e2, ← nan_flt a1]
    unfold ordM
    by_cases hn : nanB (Go.Proofs.YthgcdohndchdkaaGreatDoor.W.fltW a1) = true
    · rw [if_pos hn, hn]; exact .inl (by decide)
    · have hn' : nanB (Go.Proofs.YthgcdohndchdkaaGreatDoor.W.fltW a1) = false := by simpa using hn
      rw [if_neg hn, hn']
      rcases cmpI_three (a0 * one1) (keyI (Go.Proofs.YthgcdohndchdkaaGreatDoor.W.fltW a1)) with h | h | h <;> rw [h] <;> decide
  · unfold equalN
    rw [e1, e2]
    rcases ordM_four a0 (Go.Proofs.YthgcdohndchdkaaGreatDoor.W.fltW a1) with h | h | h | h <;> rw [h] <;> decide
end Go.Proofs.YthgcdohndchdkaaGreatDoor.W.Nu
