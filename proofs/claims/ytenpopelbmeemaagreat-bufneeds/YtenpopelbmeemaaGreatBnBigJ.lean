import Derived.Test.YtenpopelbmeemaaGreatBnAJ
/- BufNeeds: a part of the walk (BnBig). -/
namespace Go.Proofs.YtenpopelbmeemaaGreat.W
open Go.ChangeShapes Go.WideShapes Go.RowKit Go.Shelf
set_option linter.unusedVariables false
set_option maxRecDepth 100000 in
set_option maxHeartbeats 1000000 in
theorem bn_more9 (n u : Nat) (hu : u ≤ 2000) (hmore : ¬ n ≤ 8 * u / elT 9) (w : World) : Calls Tryz.prog 6 #[.int .i64 9, .int .i64 n, .int .i64 u] w fun e w' => e = .returned (.bool true) ∧ Below w.heap.size w w' := by
  have hk : thK 9 := .inl rfl
  have HE : Hid ((8 : Nat) = 1 ∨ (8 : Nat) = 2 ∨ (8 : Nat) = 4 ∨ (8 : Nat) = 8) := hid (.inr (.inr (.inr rfl)))
  have a1 : ¬ (u : Int) < 0 := by omega
  have a2 : ¬ (u : Int) > 2000 := by omega
  have cn := hf_new (Below.refl w.heap.size w) u (by omega)
  have eT : elT 9 = 8 := rfl
  obtain ⟨r1, r1', r1'', r2, r3, r3'⟩ := bn_ar1 (8) u HE.out hu
  rw [show ((8 : Nat) : Int) = 8 from rfl] at r2
  have cw := fun w => width_c 9 w
  rw [show ((elB 9 : Nat) : Int) = 0 from rfl] at cw
  go_enter Tryz.func6, Tryz.ntmps6
  go_upto_region 6 with (go_at_call 7; (with_reducible refine cn.mono ?_); rintro e W1 ⟨hb, rfl, q1, hB1⟩; clear cn)
  have c1 := bnew_big q1 9 hk n (Int.natCast_nonneg n) (bn_most1 u n hk hmore) (.slice none 0 0)
  rw [eT] at hmore
  have g0 : ¬ (n : Int) < 0 := Int.not_lt.2 (Int.natCast_nonneg n)
  have g1 : (n : Int) > ((8 * u / (8) : Nat) : Int) := bn_gt (by omega)
  generalize 8 * u / (8) = Q8 at *
  generalize ((8 * u : Nat) : Int) = U8 at *
  have HB := hid q1.bel
  clear hk HE eT q1 hB1 hmore
  go_wp2_with (first | (go_at_call 8; (with_reducible refine c1.mono ?_); rintro e w' ⟨rfl, hw⟩; (have hw' := hw.symm); subst hw'; clear hw; clear c1) | (go_at_call 18; (with_reducible refine (cw _).mono ?_); rintro e w' ⟨rfl, hw⟩; (have hw' := hw.symm); subst hw'; clear hw) | (go_at_call 14; (with_reducible refine (awake9_c _).mono ?_); rintro e WF ⟨rfl, hBF⟩; (have HBF := hid hBF); clear hBF))
  go_ret
  exact ⟨rfl, HB.out.trans (HBF.out.mono HB.out.size)⟩
set_option maxRecDepth 100000 in
set_option maxHeartbeats 1000000 in
theorem bn_full9 (n u : Nat) (hu : u ≤ 2000) (hle : n ≤ 8 * u / elT 9) (hnd : u < 1 + (n * elT 9 + 7) / 8) (w : World) : Calls Tryz.prog 6 #[.int .i64 9, .int .i64 n, .int .i64 u] w fun e w' => e = .returned (.bool true) ∧ Below w.heap.size w w' := by
  have hk : thK 9 := .inl rfl
  have HE : Hid ((8 : Nat) = 1 ∨ (8 : Nat) = 2 ∨ (8 : Nat) = 4 ∨ (8 : Nat) = 8) := hid (.inr (.inr (.inr rfl)))
  have a1 : ¬ (u : Int) < 0 := by omega
  have a2 : ¬ (u : Int) > 2000 := by omega
  have cn := hf_new (Below.refl w.heap.size w) u (by omega)
  have eT : elT 9 = 8 := rfl
  obtain ⟨r1, r1', r1'', r2, r3, r3'⟩ := bn_ar1 (8) u HE.out hu
  rw [show ((8 : Nat) : Int) = 8 from rfl] at r2
  have cw := fun w => width_c 9 w
  rw [show ((elB 9 : Nat) : Int) = 0 from rfl] at cw
  go_enter Tryz.func6, Tryz.ntmps6
  go_upto_region 6 with (go_at_call 7; (with_reducible refine cn.mono ?_); rintro e W1 ⟨hb, rfl, q1, hB1⟩; clear cn)
  have c1 := bnew_big q1 9 hk n (Int.natCast_nonneg n) (bn_most2 u n hk hnd) (.slice none 0 0)
  have hN := bn_ar2 (8) u n (.inr (.inr (.inr rfl))) hu (by rw [eT] at hle; exact hle)
  rw [eT] at hle hnd
  obtain ⟨N, hNN⟩ : ∃ N, n * (8) = N := ⟨_, rfl⟩
  rw [hNN] at hN hnd
  obtain ⟨s1, s1', s2, s2', s3, s4, s4', s5, s5'⟩ := bn_ar3 N n (8) hNN hN
  rw [show ((8 : Nat) : Int) = 8 from rfl] at s1 s1'
  have g0 : ¬ (n : Int) < 0 := Int.not_lt.2 (Int.natCast_nonneg n)
  have g1 : ¬ (n : Int) > ((8 * u / (8) : Nat) : Int) := bn_ngt hle
  have g2 : ((1 + (N + 7) / 8 : Nat) : Int) > (u : Int) := bn_gt hnd
  generalize 8 * u / (8) = Q8 at *
  generalize ((8 * u : Nat) : Int) = U8 at *
  generalize hG : 1 + (N + 7) / 8 = ND at *
  generalize (N + 7) / 8 = N8 at *
  have HB := hid q1.bel
  clear hk HE eT q1 hB1 hle hnd hN hNN hG
  go_wp2_with (first | (go_at_call 8; (with_reducible refine c1.mono ?_); rintro e w' ⟨rfl, hw⟩; (have hw' := hw.symm); subst hw'; clear hw; clear c1) | (go_at_call 18; (with_reducible refine (cw _).mono ?_); rintro e w' ⟨rfl, hw⟩; (have hw' := hw.symm); subst hw'; clear hw) | (go_at_call 14; (with_reducible refine (awake9_c _).mono ?_); rintro e WF ⟨rfl, hBF⟩; (have HBF := hid hBF); clear hBF))
  go_ret
  exact ⟨rfl, HB.out.trans (HBF.out.mono HB.out.size)⟩
end Go.Proofs.YtenpopelbmeemaaGreat.W
