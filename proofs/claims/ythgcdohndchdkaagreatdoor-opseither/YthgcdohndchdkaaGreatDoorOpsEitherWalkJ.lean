import Derived.Test.YthgcdohndchdkaaGreatDoorOpsEitherAJ
/- OpsEither: the walk, for any two numbers. -/
namespace Go.Proofs.YthgcdohndchdkaaGreatDoor.W.Nu
open Go.ChangeShapes Go.WideShapes Go.RowKit Go.Shelf
theorem opsEither_walk (b0 : Bool) (i0 u0 : Int) (b1 : Bool) (i1 u1 : Int) (x0 : (Lit.int .i64 i0).wf = true) (y0 : (Lit.int .u64 u0).wf = true) (x1 : (Lit.int .i64 i1).wf = true) (y1 : (Lit.int .u64 u1).wf = true) (W : World) : Calls Tryz.prog 5 #[.agg #[.bool b0, .int .i64 i0, .int .u64 u0], .agg #[.bool b1, .int .i64 i1, .int .u64 u1]] W fun e w' => e = .returned (.bool true) ∧ Below W.heap.size W w' := by
  refine either_core b0 b1 i0 u0 i1 u1 (wf_i64' x0).1 (wf_i64' x0).2 (wf_u64' y0).1 (wf_u64' y0).2 (wf_i64' x1).1 (wf_i64' x1).2 (wf_u64' y1).1 (wf_u64' y1).2 _ _ (!b0 && Go.Proofs.YthgcdohndchdkaaGreatDoor.W.nanB u0) _ _ _ rfl rfl rfl rfl rfl ?_ rfl W
  show equalN _ _ _ _ _ _ = _
  rw [equal_self]
  cases b0
  · show (!(!false && nanB (Go.Proofs.YthgcdohndchdkaaGreatDoor.W.fltW u0))) = _
    rw [nan_flt]
  · rfl
end Go.Proofs.YthgcdohndchdkaaGreatDoor.W.Nu
