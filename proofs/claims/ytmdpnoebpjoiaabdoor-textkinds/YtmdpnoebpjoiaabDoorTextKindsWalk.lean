/- The walk of the statement that a number's text says of which kind it is. -/
import Derived.Test.YtmdpnoebpjoiaabDoorST4
import Derived.Deep.RegionHeld3
namespace Go.Proofs.YtmdpnoebpjoiaabDoor.W
open Go.ChangeShapes Go.WideShapes Go.RowKit
theorem tabs_drew {w : World} (h : Tabs w) : Tabs w.drew := h
theorem bel_of_drew {w w2 : World} (h : Below w.drew.heap.size w.drew w2) : Below w.heap.size w w2 := ⟨h.os, h.tape, h.output, h.size, h.block⟩
theorem bel_of_drewN {w w2 : World} {n : Nat} (h : Below (w.drewN n).heap.size (w.drewN n) w2) : Below w.heap.size w w2 := bel_trans (below_drewN (Below.refl _ _) n) h
set_option maxHeartbeats 1000000 in
theorem textKinds_core (b : Bool) (i u x : Int) (X : ByteArray) (w wk : World) (hS : St w wk)
    (ct : ∀ w, Tabs w → Calls Tryd.prog 5 #[.agg #[.bool b, .int .i64 i, .int .u64 u]] w fun e w' => e = .returned (.string X) ∧ Below w.heap.size w w')
    (cw : ∀ w, Calls Tryd.prog 7 #[.int .u64 u] w fun e w' => e = .returned (.int .u64 x) ∧ w' = w)
    (cn : ∀ w, Tabs w → Calls Tryd.prog 4 #[.string X] w fun e w' => e = .returned (.tuple #[.agg (if b = true then #[.bool true, .int .i64 i, .int .u64 0] else #[.bool false, .int .i64 0, .int .u64 x]), .int .i64 0]) ∧ Below w.heap.size w w') :
    Calls Tryd.prog 3 #[.agg #[.bool b, .int .i64 i, .int .u64 u]] wk fun e w' => e = .returned (.bool true) ∧ Below w.heap.size w w' := by
  have f1 := Blk.new wk #[Value.bool b, Value.int .i64 i, Value.int .u64 u] 24
  replace hS := hS.alloc (Obj.cells #[Value.bool b, Value.int .i64 i, Value.int .u64 u] 24)
  cases b with
  | true =>
    simp only [if_true] at cn
    go_enter Tryd.func3, Tryd.ntmps3
    go_upto_region 2 with (first | (go_at_call 5; (with_reducible refine (ct _ hS.tabs).mono ?_); rintro e wn ⟨rfl, hb⟩; (replace hS := hS.go hb); (replace f1 := f1.go hb); clear hb) | (go_at_call 4; (with_reducible refine (cn _ hS.tabs).mono ?_); rintro e wn ⟨rfl, hb⟩; (replace hS := hS.go hb); (replace f1 := f1.go hb); clear hb))
    have f2 := Blk.new wn #[Value.bool true, Value.int .i64 i, Value.int .u64 0] 24
    replace f1 := f1.alloc (Obj.cells #[Value.bool true, Value.int .i64 i, Value.int .u64 0] 24)
    replace hS := hS.alloc (Obj.cells #[Value.bool true, Value.int .i64 i, Value.int .u64 0] 24)
    generalize World.alloc wn _ = W2 at *
    generalize wn.heap.size = b2 at *
    generalize wk.heap.size = b1 at *
    have g0 := f1.cells 0
    have g1 := f1.cells 1
    have g2 := f1.cells 2
    have g3 := f2.cells 0
    have g4 := f2.cells 1
    have g5 := f2.cells 2
    simp at g0 g1 g2 g3 g4 g5
    go_wp2_with (first | (go_at_call 6; refine (awake_c _ hS.tabs).mono ?_; rintro e wn ⟨rfl, hb⟩; (replace hS := hS.go hb); clear hb))
    go_ret
    exact ⟨rfl, hS.below⟩
  | false =>
    simp only [Bool.false_eq_true, if_false] at cn
    go_enter Tryd.func3, Tryd.ntmps3
    go_upto_region 2 with (first | (go_at_call 5; (with_reducible refine (ct _ hS.tabs).mono ?_); rintro e wn ⟨rfl, hb⟩; (replace hS := hS.go hb); (replace f1 := f1.go hb); clear hb) | (go_at_call 4; (with_reducible refine (cn _ hS.tabs).mono ?_); rintro e wn ⟨rfl, hb⟩; (replace hS := hS.go hb); (replace f1 := f1.go hb); clear hb))
    have f2 := Blk.new wn #[Value.bool false, Value.int .i64 0, Value.int .u64 x] 24
    replace f1 := f1.alloc (Obj.cells #[Value.bool false, Value.int .i64 0, Value.int .u64 x] 24)
    replace hS := hS.alloc (Obj.cells #[Value.bool false, Value.int .i64 0, Value.int .u64 x] 24)
    generalize World.alloc wn _ = W2 at *
    generalize wn.heap.size = b2 at *
    generalize wk.heap.size = b1 at *
    have g0 := f1.cells 0
    have g1 := f1.cells 1
    have g2 := f1.cells 2
    have g3 := f2.cells 0
    have g4 := f2.cells 1
    have g5 := f2.cells 2
    simp at g0 g1 g2 g3 g4 g5
    go_upto_region 6 with fail
    have k1 := f1.cells
    have k2 := f2.cells
    clear g0 g1 g2 g3 g4 g5
    go_region_held3 (fun w' => (∀ q, w'.cell? ⟨b1, q, none⟩ = #[Value.bool false, Value.int .i64 i, Value.int .u64 u][q]?) ∧ (∀ q, w'.cell? ⟨b2, q, none⟩ = #[Value.bool false, Value.int .i64 0, Value.int .u64 x][q]?)) (exact ⟨f1.cells, f2.cells⟩) (first | (go_at_call 7; (with_reducible refine (cw _).mono ?_); rintro e wn ⟨rfl, hz⟩; (have hz' := hz.symm); subst hz'; clear hz) | (go_at_call 6; (first | (with_reducible refine (awake_c _ hS.tabs).mono ?_) | (with_reducible refine (awake_c _ (tabs_drew hS.tabs)).mono ?_) | (with_reducible refine (awake_c _ (hS.tabs.drewN _)).mono ?_)); rintro e wn ⟨rfl, hb⟩; (first | (replace hb := bel_of_drew hb) | (replace hb := bel_of_drewN hb) | skip); (replace hS := hS.go hb); (replace f1 := f1.go hb); (replace f2 := f2.go hb); clear hb))
    all_goals go_wp2_with fail
    all_goals go_ret
    all_goals exact ⟨rfl, hS.below⟩
theorem textKinds_walk (b0 : Bool) (i0 u0 : Int) (x0 : (Lit.int .i64 i0).wf = true) (y0 : (Lit.int .u64 u0).wf = true) (w : World) (ht : Tabs w) :
    Calls Tryd.prog 3 #[.agg #[.bool b0, .int .i64 i0, .int .u64 u0]] w fun e w' => e = .returned (.bool true) ∧ Below w.heap.size w w' := by
  replace x0 := bounds_i64 x0
  replace y0 := bounds_u64 y0
  have l0 := int_len i0 (by omega) (by omega)
  have l1 := flt_len u0 (by omega) (by omega)
  refine textKinds_core b0 i0 u0 (fltW u0) _ w w (St.start ht) (fun w h => text_c b0 i0 u0 (by omega) (by omega) (by omega) (by omega) w h) (fun w => refFromFloat_c u0 (by omega) (by omega) w) (fun w h => ?_)
  cases b0 with
  | true =>
    have c := parse_c ⟨(intT i0).toArray⟩ (str_max _ (by omega)) w h
    have e1 : readN (⟨(intT i0).toArray⟩ : ByteArray).data.toList = (true, i0, 0, 0) := readN_int i0 (by omega) (by omega)
    rw [e1] at c
    exact c
  | false =>
    have c := parse_c ⟨(fltT u0).toArray⟩ (str_max _ (by omega)) w h
    have e1 : readN (⟨(fltT u0).toArray⟩ : ByteArray).data.toList = (false, 0, fltW u0, 0) := readN_flt u0 (by omega) (by omega)
    rw [e1] at c
    exact c
end Go.Proofs.YtmdpnoebpjoiaabDoor.W
