import Derived.Test.YthgcdohndchdkaaGreatDoorOpsBitsAJ
/- OpsBits: the walk, for whatever whole numbers. -/
namespace Go.Proofs.YthgcdohndchdkaaGreatDoor.W.Nu
open Go.ChangeShapes Go.WideShapes Go.RowKit Go.Shelf
theorem opsBits_walk (a0 a1 : Int) (w0 : (Lit.int .i64 a0).wf = true) (w1 : (Lit.int .i64 a1).wf = true) (W : World) : Calls Tryz.prog 6 #[.int .i64 a0, .int .i64 a1] W fun e w' => e = .returned (.bool true) ∧ Below W.heap.size W w' :=
  bits_walk0 a0 a1 (wf_i64' w0).1 (wf_i64' w0).2 (wf_i64' w1).1 (wf_i64' w1).2 W
end Go.Proofs.YthgcdohndchdkaaGreatDoor.W.Nu
