/- The walk of the statement on what is read. -/
import Derived.Test.YtmdpnoebpjoiaaaDoorST4
import Derived.Test.YtmdpnoebpjoiaaaDoorRT4
namespace Go.Proofs.YtmdpnoebpjoiaaaDoor.W
open Go.ChangeShapes Go.WideShapes Go.RowKit
set_option linter.unusedVariables false
set_option maxRecDepth 100000 in
set_option maxHeartbeats 1000000 in
theorem textReads_core (s : ByteArray) (i ei u eu : Int) (b : Bool) (n1 n2 en : Int) (w wk : World) (hS : St w wk) (h1000 : ¬ 1000 < (s.size : Int))
    (c1 : ∀ w, Calls Tryd.prog 15 #[.string s] w fun e w' => e = .returned (.tuple #[.int .i64 i, .int .i64 ei]) ∧ w' = w)
    (c2 : ∀ w, Calls Tryd.prog 16 #[.string s] w fun e w' => e = .returned (.tuple #[.int .i64 i, .int .i64 ei]) ∧ w' = w)
    (c3 : ∀ w, Tabs w → Calls Tryd.prog 17 #[.string s] w fun e w' => e = .returned (.tuple #[.int .u64 u, .int .i64 eu]) ∧ Below w.heap.size w w')
    (c4 : ∀ w, Calls Tryd.prog 18 #[.string s] w fun e w' => e = .returned (.tuple #[.int .u64 u, .int .i64 eu]) ∧ Below w.heap.size w w')
    (c5 : ∀ w, Tabs w → Calls Tryd.prog 19 #[.string s] w fun e w' => e = .returned (.tuple #[.agg #[.bool b, .int .i64 n1, .int .u64 n2], .int .i64 en]) ∧ Below w.heap.size w w')
    (c6 : ∀ w, Calls Tryd.prog 20 #[.string s] w fun e w' => e = .returned (.tuple #[.agg #[.bool b, .int .i64 n1, .int .u64 n2], .int .i64 en]) ∧ Below w.heap.size w w') :
    Calls Tryd.prog 4 #[.string s] wk fun e w' => e = .returned (.bool true) ∧ Below w.heap.size w w' := by
  go_enter Tryd.func4, Tryd.ntmps4
  go_upto_region 12 with (first | (go_at_call 15; (with_reducible refine (c1 _).mono ?_); rintro e wn ⟨rfl, hz⟩; (have hz' := hz.symm); subst hz'; clear hz) | (go_at_call 16; (with_reducible refine (c2 _).mono ?_); rintro e wn ⟨rfl, hz⟩; (have hz' := hz.symm); subst hz'; clear hz) | (go_at_call 17; (with_reducible refine (c3 _ hS.tabs).mono ?_); rintro e wn ⟨rfl, hb⟩; (replace hS := hS.go hb); clear hb) | (go_at_call 18; (with_reducible refine (c4 _).mono ?_); rintro e wn ⟨rfl, hb⟩; (replace hS := hS.go hb); clear hb) | (go_at_call 19; (with_reducible refine (c5 _ hS.tabs).mono ?_); rintro e wn ⟨rfl, hb⟩; (replace hS := hS.go hb); clear hb))
  have f1 := Blk.new wn #[Value.bool b, Value.int .i64 n1, Value.int .u64 n2] 27
  replace hS := hS.alloc (Obj.cells #[Value.bool b, Value.int .i64 n1, Value.int .u64 n2] 27)
  generalize World.alloc wn _ = W1 at *
  generalize wn.heap.size = b1 at *
  go_upto_region 13 with (go_at_call 20; (with_reducible refine (c6 _).mono ?_); rintro e wm ⟨rfl, hb⟩; (replace hS := hS.go hb); (replace f1 := f1.go hb); clear hb)
  have f2 := Blk.new wm #[Value.bool b, Value.int .i64 n1, Value.int .u64 n2] 27
  replace f1 := f1.alloc (Obj.cells #[Value.bool b, Value.int .i64 n1, Value.int .u64 n2] 27)
  replace hS := hS.alloc (Obj.cells #[Value.bool b, Value.int .i64 n1, Value.int .u64 n2] 27)
  generalize World.alloc wm _ = W2 at *
  generalize wm.heap.size = b2 at *
  have g0 := f1.cells 0
  have g1 := f1.cells 1
  have g2 := f1.cells 2
  have g3 := f2.cells 0
  have g4 := f2.cells 1
  have g5 := f2.cells 2
  simp at g0 g1 g2 g3 g4 g5
  go_wp2_with (first | (go_at_call 14; (with_reducible refine (awake_c _ hS.tabs).mono ?_); rintro e wz ⟨rfl, hb⟩; (replace hS := hS.go hb); clear hb))
  go_ret
  exact ⟨rfl, hS.below⟩
set_option maxRecDepth 100000 in
theorem textReads_far (s : ByteArray) (w : World) (hs : s.size ≤ maxLen) (h : 1000 < (s.size : Int)) :
    Calls Tryd.prog 4 #[.string s] w fun e w' => e = .returned (.bool true) ∧ Below w.heap.size w w' := by
  unfold maxLen at hs
  go_enter Tryd.func4, Tryd.ntmps4
  go_wp2_with fail
  go_ret
  exact ⟨rfl, Below.refl _ _⟩
theorem textReads_walk (a0 : ByteArray) (h0 : a0.size ≤ maxLen) (w : World) (ht : Tabs w) :
    Calls Tryd.prog 4 #[.string a0] w fun e w' => e = .returned (.bool true) ∧ Below w.heap.size w w' := by
  by_cases h : 1000 < (a0.size : Int)
  · exact textReads_far a0 w h0 h
  · exact textReads_core a0 _ _ _ _ _ _ _ _ w w (St.start ht) h (fun w => parseInt_c a0 h0 w) (fun w => refParseInt_c a0 h0 w) (fun w g => parseFloat_c a0 h0 w g) (fun w => refParseFloat_c a0 h0 w) (fun w g => parse_c a0 h0 w g) (fun w => refParse_c a0 h0 w)
end Go.Proofs.YtmdpnoebpjoiaaaDoor.W
