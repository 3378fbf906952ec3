/- The walk of the statement NumOrders: it returns true at every two numbers. -/
import Derived.Test.YtpbcplgpbafjpaaNumAw
import Derived.Test.YtpbcplgpbafjpaaRefO3
import Derived.Test.YtpbcplgpbafjpaaNumOpen
import Derived.OpenShut
import Derived.RowKit3
import Derived.Deep.DeepCutAuto
namespace Go.Proofs.Ytpbcplgpbafjpaa.W
open Go.ChangeShapes Go.WideShapes Go.RowKit
set_option maxRecDepth 100000 in
set_option maxHeartbeats 8000000 in
theorem numOrders_core (a b : Bool) (i u j v : Int) (L0 L1 L2 : Bool) (w : World)
    (p0 : ∀ w, Calls Try.prog 28 #[.agg #[.bool a, .int .i64 i, .int .u64 u], .agg #[.bool b, .int .i64 j, .int .u64 v]] w fun e w' => e = .returned (.bool L0) ∧ Gr w w')
    (r0 : ∀ w, Calls Try.prog 29 #[.agg #[.bool a, .int .i64 i, .int .u64 u], .agg #[.bool b, .int .i64 j, .int .u64 v]] w fun e w' => e = .returned (.bool L0) ∧ Gr w w')
    (p1 : ∀ w, Calls Try.prog 30 #[.agg #[.bool a, .int .i64 i, .int .u64 u], .agg #[.bool b, .int .i64 j, .int .u64 v]] w fun e w' => e = .returned (.bool L1) ∧ Gr w w')
    (r1 : ∀ w, Calls Try.prog 31 #[.agg #[.bool a, .int .i64 i, .int .u64 u], .agg #[.bool b, .int .i64 j, .int .u64 v]] w fun e w' => e = .returned (.bool L1) ∧ Gr w w')
    (p2 : ∀ w, Calls Try.prog 32 #[.agg #[.bool a, .int .i64 i, .int .u64 u], .agg #[.bool b, .int .i64 j, .int .u64 v]] w fun e w' => e = .returned (.bool L2) ∧ Gr w w')
    (r2 : ∀ w, Calls Try.prog 33 #[.agg #[.bool a, .int .i64 i, .int .u64 u], .agg #[.bool b, .int .i64 j, .int .u64 v]] w fun e w' => e = .returned (.bool L2) ∧ Gr w w') :
    Calls Try.prog 6 #[.agg #[.bool a, .int .i64 i, .int .u64 u], .agg #[.bool b, .int .i64 j, .int .u64 v]] w fun e w' => e = .returned (.bool true) ∧ Gr w w' := by
  go_enter Try.func6, Try.ntmps6
  go_upto_region 1 with fail
  generalize hW : World.alloc (World.alloc w _) _ = W0
  have hg := Gr.of_eq hW
  obtain ⟨fa, fb, hG⟩ := hg.two (Nat.zero_lt_succ _) (Nat.zero_lt_succ _)
  clear hg hW
  go_region_held3 (fun w' => (∀ i_1, w'.cell? ⟨w.heap.size, i_1, none⟩ = #[Value.bool a, .int .i64 i, .int .u64 u][i_1]?) ∧ (∀ i, w'.cell? ⟨w.heap.size + 1, i, none⟩ = #[Value.bool b, .int .i64 j, .int .u64 v][i]?)) (exact ⟨fa, fb⟩) (first | (go_at_call 28; (with_reducible refine (p0 _).mono ?_); rintro e w' ⟨rfl, hg⟩; (try replace hg := hg.of_drew); replace fa := hg.cells fa (Nat.zero_lt_succ _); replace fb := hg.cells fb (Nat.zero_lt_succ _); replace hG := hG.trans hg; clear hg) | (go_at_call 29; (with_reducible refine (r0 _).mono ?_); rintro e w' ⟨rfl, hg⟩; (try replace hg := hg.of_drew); replace fa := hg.cells fa (Nat.zero_lt_succ _); replace fb := hg.cells fb (Nat.zero_lt_succ _); replace hG := hG.trans hg; clear hg) | (go_at_call 30; (with_reducible refine (p1 _).mono ?_); rintro e w' ⟨rfl, hg⟩; (try replace hg := hg.of_drew); replace fa := hg.cells fa (Nat.zero_lt_succ _); replace fb := hg.cells fb (Nat.zero_lt_succ _); replace hG := hG.trans hg; clear hg) | (go_at_call 31; (with_reducible refine (r1 _).mono ?_); rintro e w' ⟨rfl, hg⟩; (try replace hg := hg.of_drew); replace fa := hg.cells fa (Nat.zero_lt_succ _); replace fb := hg.cells fb (Nat.zero_lt_succ _); replace hG := hG.trans hg; clear hg) | (go_at_call 32; (with_reducible refine (p2 _).mono ?_); rintro e w' ⟨rfl, hg⟩; (try replace hg := hg.of_drew); replace fa := hg.cells fa (Nat.zero_lt_succ _); replace fb := hg.cells fb (Nat.zero_lt_succ _); replace hG := hG.trans hg; clear hg) | (go_at_call 33; (with_reducible refine (r2 _).mono ?_); rintro e w' ⟨rfl, hg⟩; (try replace hg := hg.of_drew); replace fa := hg.cells fa (Nat.zero_lt_succ _); replace fb := hg.cells fb (Nat.zero_lt_succ _); replace hG := hG.trans hg; clear hg) | (go_at_call 19; refine (awake_c _).mono ?_; rintro e w' ⟨rfl, hg⟩; (try replace hg := hg.of_drew); replace fa := hg.cells fa (Nat.zero_lt_succ _); replace fb := hg.cells fb (Nat.zero_lt_succ _); replace hG := hG.trans hg; clear hg))
  all_goals go_wp2
  all_goals go_ret
  all_goals exact ⟨rfl, hG⟩
theorem numOrders_walk (b0 : Bool) (i0 u0 : Int) (x0 : (Lit.int .i64 i0).wf = true) (y0 : (Lit.int .u64 u0).wf = true) (b1 : Bool) (i1 u1 : Int) (x1 : (Lit.int .i64 i1).wf = true) (y1 : (Lit.int .u64 u1).wf = true) (w : World) :
    Calls Try.prog 6 #[.agg #[.bool b0, .int .i64 i0, .int .u64 u0], .agg #[.bool b1, .int .i64 i1, .int .u64 u1]] w fun e w' => e = .returned (.bool true) ∧ Below w.heap.size w w' := by
  obtain ⟨h0, h0'⟩ := bounds_i64 x0
  obtain ⟨h1, h1'⟩ := bounds_i64 x1
  obtain ⟨k0, k0'⟩ := bounds_u64 y0
  obtain ⟨k1, k1'⟩ := bounds_u64 y1
  have m0 : inN i0 u0 := ⟨⟨by omega, by omega⟩, by omega, by omega⟩
  have m1 : inN i1 u1 := ⟨⟨by omega, by omega⟩, by omega, by omega⟩
  refine Calls.mono (R := fun e w' => e = .returned (.bool true) ∧ Gr w w') ?_ (fun _ _ ⟨h, g⟩ => ⟨h, g.below⟩)
  exact numOrders_core b0 b1 i0 u0 i1 u1 _ _ _ w (numLess_c b0 b1 i0 u0 i1 u1 m0 m1) (ref3Less_c b0 b1 i0 u0 i1 u1 m0 m1) (numLessEq_c b0 b1 i0 u0 i1 u1 m0 m1) (ref3LessEq_c b0 b1 i0 u0 i1 u1 m0 m1) (numEqual_c b0 b1 i0 u0 i1 u1 m0 m1) (ref3Equal_c b0 b1 i0 u0 i1 u1 m0 m1)
end Go.Proofs.Ytpbcplgpbafjpaa.W
