import Derived.Test.YtenpopelbmeemaaGreatBnAJ
/- BufNeeds: a part of the walk (BnNeg). -/
namespace Go.Proofs.YtenpopelbmeemaaGreat.W
open Go.ChangeShapes Go.WideShapes Go.RowKit Go.Shelf
set_option linter.unusedVariables false
set_option maxRecDepth 100000 in
set_option maxHeartbeats 1000000 in
theorem bn_neg (k : Int) (hk : thK k) (h5 : ¬ k < 5) (h9 : ¬ k > 9) (n : Int) (hn : n < 0) (u : Nat) (hu : u ≤ 2000) (w : World) : Calls Tryz.prog 6 #[.int .i64 k, .int .i64 n, .int .i64 u] w fun e w' => e = .returned (.bool true) ∧ Below w.heap.size w w' := by
  have a1 : ¬ (u : Int) < 0 := by omega
  have a2 : ¬ (u : Int) > 2000 := by omega
  have cn := hf_new (Below.refl w.heap.size w) u (by omega)
  go_enter Tryz.func6, Tryz.ntmps6
  go_upto_region 6 with (go_at_call 7; (with_reducible refine cn.mono ?_); rintro e W1 ⟨hb, rfl, q1, hB1⟩; clear cn)
  have c1 := bnew_neg q1 k hk n hn (.slice none 0 0)
  have HB := hid q1.bel
  clear q1 hB1 hk hu
  go_wp2_with (first | (go_at_call 8; (with_reducible refine c1.mono ?_); rintro e w' ⟨rfl, hw⟩; (have hw' := hw.symm); subst hw'; clear hw; clear c1) | (go_at_call 14; (with_reducible refine (awake9_c _).mono ?_); rintro e WF ⟨rfl, hBF⟩; (have HBF := hid hBF); clear hBF))
  go_ret
  exact ⟨rfl, HB.out.trans (HBF.out.mono HB.out.size)⟩
end Go.Proofs.YtenpopelbmeemaaGreat.W
