/- The walk of the statement NumFloors: it returns true at every two numbers. -/
import Derived.Test.YtpbcplgpbafjpaaNumAw
import Derived.Test.YtpbcplgpbafjpaaNumU
import Derived.Test.YtpbcplgpbafjpaaRefE3
import Derived.Test.YtpbcplgpbafjpaaNumOpen
import Derived.OpenShut
import Derived.RowKit3
import Derived.Deep.DeepCutAuto
namespace Go.Proofs.Ytpbcplgpbafjpaa.W
open Go.ChangeShapes Go.WideShapes Go.RowKit
set_option maxRecDepth 100000 in
set_option maxHeartbeats 8000000 in
theorem numFloors_core (a b : Bool) (i u j v : Int) (x0w : Bool) (x0i x0u x0e : Int) (x1w : Bool) (x1i x1u x1e : Int) (w : World)
    (p0 : ∀ w, Calls Try.prog 20 #[.agg #[.bool a, .int .i64 i, .int .u64 u], .agg #[.bool b, .int .i64 j, .int .u64 v]] w fun e w' => e = .returned (.tuple #[.agg #[.bool x0w, .int .i64 x0i, .int .u64 x0u], .int .i64 x0e]) ∧ Gr w w')
    (r0 : ∀ w, Calls Try.prog 21 #[.agg #[.bool a, .int .i64 i, .int .u64 u], .agg #[.bool b, .int .i64 j, .int .u64 v]] w fun e w' => e = .returned (.tuple #[.agg #[.bool x0w, .int .i64 x0i, .int .u64 x0u], .int .i64 x0e]) ∧ Gr w w')
    (p1 : ∀ w, Calls Try.prog 22 #[.agg #[.bool a, .int .i64 i, .int .u64 u], .agg #[.bool b, .int .i64 j, .int .u64 v]] w fun e w' => e = .returned (.tuple #[.agg #[.bool x1w, .int .i64 x1i, .int .u64 x1u], .int .i64 x1e]) ∧ Gr w w')
    (r1 : ∀ w, Calls Try.prog 23 #[.agg #[.bool a, .int .i64 i, .int .u64 u], .agg #[.bool b, .int .i64 j, .int .u64 v]] w fun e w' => e = .returned (.tuple #[.agg #[.bool x1w, .int .i64 x1i, .int .u64 x1u], .int .i64 x1e]) ∧ Gr w w') :
    Calls Try.prog 4 #[.agg #[.bool a, .int .i64 i, .int .u64 u], .agg #[.bool b, .int .i64 j, .int .u64 v]] w fun e w' => e = .returned (.bool true) ∧ Gr w w' := by
  go_enter Try.func4, Try.ntmps4
  go_upto_region 1 with fail
  generalize hW : World.alloc (World.alloc w _) _ = W0
  have hg := Gr.of_eq hW
  obtain ⟨fa, fb, hG⟩ := hg.two (Nat.zero_lt_succ _) (Nat.zero_lt_succ _)
  clear hg hW
  go_upto_region 2 with (go_at_call 20; (with_reducible refine (p0 _).mono ?_); rintro e w1 ⟨rfl, hg⟩; replace fa := hg.cells fa (Nat.zero_lt_succ _); replace fb := hg.cells fb (Nat.zero_lt_succ _); replace hG := hG.trans hg; clear hg)
  have la := cells_lt fa (Nat.zero_lt_succ _)
  have lb := cells_lt fb (Nat.zero_lt_succ _)
  have hbX := hG.size
  generalize hW : World.alloc w1 _ = W1
  have hg := Gr.of_eq hW
  obtain ⟨fx, zx, hh⟩ := hg.one (Nat.zero_lt_succ _)
  clear hg hW
  have hg := hh
  clear hh
  replace fa := hg.cells fa (Nat.zero_lt_succ _); replace fb := hg.cells fb (Nat.zero_lt_succ _); replace hG := hG.trans hg
  clear hg
  generalize w1.heap.size = bX at la lb hbX fx zx ⊢
  go_upto_region 3 with (go_at_call 21; (with_reducible refine (r0 _).mono ?_); rintro e w2 ⟨rfl, hg⟩; replace zx := hg.thaw fx (Nat.zero_lt_succ _) zx; replace fx := hg.cells fx (Nat.zero_lt_succ _); replace fa := hg.cells fa (Nat.zero_lt_succ _); replace fb := hg.cells fb (Nat.zero_lt_succ _); replace hG := hG.trans hg; clear hg)
  have lx := cells_lt fx (Nat.zero_lt_succ _)
  have la' := cells_lt fa (Nat.zero_lt_succ _)
  have lb' := cells_lt fb (Nat.zero_lt_succ _)
  have hbY := hG.size
  generalize hW : World.alloc w2 _ = W2
  have hg := Gr.of_eq hW
  obtain ⟨fy, zy, hh⟩ := hg.one (Nat.zero_lt_succ _)
  clear hg hW
  have hg := hh
  clear hh
  replace zx := hg.thaw fx (Nat.zero_lt_succ _) zx
  replace fx := hg.cells fx (Nat.zero_lt_succ _)
  replace fa := hg.cells fa (Nat.zero_lt_succ _); replace fb := hg.cells fb (Nat.zero_lt_succ _); replace hG := hG.trans hg
  clear hg
  generalize w2.heap.size = bY at la' lb' lx hbY fy zy ⊢
  have N1 := hid (show w.heap.size ≠ bX by omega)
  have N2 := hid (show w.heap.size + 1 ≠ bX by omega)
  have N3 := hid (show bY ≠ bX by omega)
  have N4 := hid (show w.heap.size ≠ bY by omega)
  have N5 := hid (show w.heap.size + 1 ≠ bY by omega)
  have N6 := hid (show bX ≠ bY by omega)
  have BX := hid hbX
  have BY := hid hbY
  clear la lb la' lb' lx hbX hbY
  go_upto_region 6 with (go_at_call 22; (with_reducible refine (p1 _).mono ?_); rintro e wk ⟨rfl, hg⟩; replace zx := hg.thaw fx (Nat.zero_lt_succ _) zx; replace zy := hg.thaw fy (Nat.zero_lt_succ _) zy; replace fx := hg.cells fx (Nat.zero_lt_succ _); replace fy := hg.cells fy (Nat.zero_lt_succ _); replace fa := hg.cells fa (Nat.zero_lt_succ _); replace fb := hg.cells fb (Nat.zero_lt_succ _); replace hG := hG.trans hg; clear hg)
  generalize hW : World.setCell (World.setCell (World.setCell wk _ _) _ _) _ _ = W
  obtain ⟨gx, far, fro, hG'⟩ := upd hW fx BX.out hG
  replace fa := far _ _ N1.out fa
  replace fb := far _ _ N2.out fb
  replace fy := far _ _ N3.out fy
  replace zx := fro _ zx
  replace zy := fro _ zy
  replace fx := gx
  replace hG := hG'
  clear far fro hG' gx hW
  go_upto_region 7 with (go_at_call 23; (with_reducible refine (r1 _).mono ?_); rintro e wl ⟨rfl, hg⟩; replace zx := hg.thaw fx (Nat.zero_lt_succ _) zx; replace zy := hg.thaw fy (Nat.zero_lt_succ _) zy; replace fx := hg.cells fx (Nat.zero_lt_succ _); replace fy := hg.cells fy (Nat.zero_lt_succ _); replace fa := hg.cells fa (Nat.zero_lt_succ _); replace fb := hg.cells fb (Nat.zero_lt_succ _); replace hG := hG.trans hg; clear hg)
  generalize hW : World.setCell (World.setCell (World.setCell wl _ _) _ _) _ _ = W'
  obtain ⟨gx, far, fro, hG'⟩ := upd hW fy BY.out hG
  replace fa := far _ _ N4.out fa
  replace fb := far _ _ N5.out fb
  replace fx := far _ _ N6.out fx
  replace zx := fro _ zx
  replace zy := fro _ zy
  replace fy := gx
  replace hG := hG'
  clear far fro hG' gx hW
  go_wp2_with (go_at_call 19; refine (awake_c _).mono ?_; rintro e w' ⟨rfl, hg⟩; replace hG := hG.trans hg; clear hg)
  go_ret
  exact ⟨rfl, hG⟩
theorem numFloors_walk (b0 : Bool) (i0 u0 : Int) (x0 : (Lit.int .i64 i0).wf = true) (y0 : (Lit.int .u64 u0).wf = true) (b1 : Bool) (i1 u1 : Int) (x1 : (Lit.int .i64 i1).wf = true) (y1 : (Lit.int .u64 u1).wf = true) (w : World) :
    Calls Try.prog 4 #[.agg #[.bool b0, .int .i64 i0, .int .u64 u0], .agg #[.bool b1, .int .i64 i1, .int .u64 u1]] w fun e w' => e = .returned (.bool true) ∧ Below w.heap.size w w' := by
  obtain ⟨h0, h0'⟩ := bounds_i64 x0
  obtain ⟨h1, h1'⟩ := bounds_i64 x1
  obtain ⟨k0, k0'⟩ := bounds_u64 y0
  obtain ⟨k1, k1'⟩ := bounds_u64 y1
  have m0 : inN i0 u0 := ⟨⟨by omega, by omega⟩, by omega, by omega⟩
  have m1 : inN i1 u1 := ⟨⟨by omega, by omega⟩, by omega, by omega⟩
  refine Calls.mono (R := fun e w' => e = .returned (.bool true) ∧ Gr w w') ?_ (fun _ _ ⟨h, g⟩ => ⟨h, g.below⟩)
  exact numFloors_core b0 b1 i0 u0 i1 u1 _ _ _ _ _ _ _ _ w (numFloorDiv_c b0 b1 i0 u0 i1 u1 (by omega) (by omega) (by omega) (by omega)) (ref3FloorDiv_c b0 b1 i0 u0 i1 u1 m0 m1) (numMod_c b0 b1 i0 u0 i1 u1 (by omega) (by omega) (by omega) (by omega)) (ref3Mod_c b0 b1 i0 u0 i1 u1 m0 m1)
end Go.Proofs.Ytpbcplgpbafjpaa.W
