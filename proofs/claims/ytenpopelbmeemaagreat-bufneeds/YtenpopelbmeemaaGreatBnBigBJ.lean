import Derived.Test.YtenpopelbmeemaaGreatBnAJ
/- BufNeeds: a part of the walk (BnBigB). -/
namespace Go.Proofs.YtenpopelbmeemaaGreat.W
open Go.ChangeShapes Go.WideShapes Go.RowKit Go.Shelf
set_option linter.unusedVariables false
set_option maxRecDepth 100000 in
set_option maxHeartbeats 1000000 in
theorem bn_moreb (k : Int) (hkb : elB k > 0) (hk9 : ¬ k = 9) (h5 : ¬ k < 5) (h9 : ¬ k > 9) (n u : Nat) (hu : u ≤ 2000) (hmore : ¬ n ≤ 8 * u / elT k) (w : World) : Calls Tryz.prog 6 #[.int .i64 k, .int .i64 n, .int .i64 u] w fun e w' => e = .returned (.bool true) ∧ Below w.heap.size w w' := by
  have hk : thK k := .inr hkb
  have HE : Hid (elB k = 1 ∨ elB k = 2 ∨ elB k = 4 ∨ elB k = 8) := hid (by rcases elB_cases k with h | h | h | h | h <;> omega)
  have a1 : ¬ (u : Int) < 0 := by omega
  have a2 : ¬ (u : Int) > 2000 := by omega
  have cn := hf_new (Below.refl w.heap.size w) u (by omega)
  have eT : elT k = elB k := by unfold elT; rw [if_neg hk9]
  obtain ⟨r1, r1', r1'', r2, r3, r3'⟩ := bn_ar1 (elB k) u HE.out hu
  have cw := fun w => width_c k w
  have e1 : ¬ ((elB k : Nat) : Int) < 1 := by omega
  have e0 : ¬ ((elB k : Nat) : Int) = 0 := by omega
  go_enter Tryz.func6, Tryz.ntmps6
  go_upto_region 6 with (go_at_call 7; (with_reducible refine cn.mono ?_); rintro e W1 ⟨hb, rfl, q1, hB1⟩; clear cn)
  have c1 := bnew_big q1 k hk n (Int.natCast_nonneg n) (bn_most1 u n hk hmore) (.slice none 0 0)
  rw [eT] at hmore
  have g0 : ¬ (n : Int) < 0 := Int.not_lt.2 (Int.natCast_nonneg n)
  have g1 : (n : Int) > ((8 * u / (elB k) : Nat) : Int) := bn_gt (by omega)
  generalize 8 * u / (elB k) = Q8 at *
  generalize ((8 * u : Nat) : Int) = U8 at *
  generalize hEE : elB k = EE at *
  have HB := hid q1.bel
  clear hk HE eT hkb hEE q1 hB1 hmore
  go_wp2_with (first | (go_at_call 8; (with_reducible refine c1.mono ?_); rintro e w' ⟨rfl, hw⟩; (have hw' := hw.symm); subst hw'; clear hw; clear c1) | (go_at_call 18; (with_reducible refine (cw _).mono ?_); rintro e w' ⟨rfl, hw⟩; (have hw' := hw.symm); subst hw'; clear hw) | (go_at_call 14; (with_reducible refine (awake9_c _).mono ?_); rintro e WF ⟨rfl, hBF⟩; (have HBF := hid hBF); clear hBF))
  go_ret
  exact ⟨rfl, HB.out.trans (HBF.out.mono HB.out.size)⟩
set_option maxRecDepth 100000 in
set_option maxHeartbeats 1000000 in
theorem bn_fullb (k : Int) (hkb : elB k > 0) (hk9 : ¬ k = 9) (h5 : ¬ k < 5) (h9 : ¬ k > 9) (n u : Nat) (hu : u ≤ 2000) (hle : n ≤ 8 * u / elT k) (hnd : u < 1 + (n * elT k + 7) / 8) (w : World) : Calls Tryz.prog 6 #[.int .i64 k, .int .i64 n, .int .i64 u] w fun e w' => e = .returned (.bool true) ∧ Below w.heap.size w w' := by
  have hk : thK k := .inr hkb
  have HE : Hid (elB k = 1 ∨ elB k = 2 ∨ elB k = 4 ∨ elB k = 8) := hid (by rcases elB_cases k with h | h | h | h | h <;> omega)
  have a1 : ¬ (u : Int) < 0 := by omega
  have a2 : ¬ (u : Int) > 2000 := by omega
  have cn := hf_new (Below.refl w.heap.size w) u (by omega)
  have eT : elT k = elB k := by unfold elT; rw [if_neg hk9]
  obtain ⟨r1, r1', r1'', r2, r3, r3'⟩ := bn_ar1 (elB k) u HE.out hu
  have cw := fun w => width_c k w
  have e1 : ¬ ((elB k : Nat) : Int) < 1 := by omega
  have e0 : ¬ ((elB k : Nat) : Int) = 0 := by omega
  go_enter Tryz.func6, Tryz.ntmps6
  go_upto_region 6 with (go_at_call 7; (with_reducible refine cn.mono ?_); rintro e W1 ⟨hb, rfl, q1, hB1⟩; clear cn)
  have c1 := bnew_big q1 k hk n (Int.natCast_nonneg n) (bn_most2 u n hk hnd) (.slice none 0 0)
  have hN := bn_ar2 (elB k) u n (HE.out) hu (by rw [eT] at hle; exact hle)
  rw [eT] at hle hnd
  obtain ⟨N, hNN⟩ : ∃ N, n * (elB k) = N := ⟨_, rfl⟩
  rw [hNN] at hN hnd
  obtain ⟨s1, s1', s2, s2', s3, s4, s4', s5, s5'⟩ := bn_ar3 N n (elB k) hNN hN
  have g0 : ¬ (n : Int) < 0 := Int.not_lt.2 (Int.natCast_nonneg n)
  have g1 : ¬ (n : Int) > ((8 * u / (elB k) : Nat) : Int) := bn_ngt hle
  have g2 : ((1 + (N + 7) / 8 : Nat) : Int) > (u : Int) := bn_gt hnd
  generalize 8 * u / (elB k) = Q8 at *
  generalize ((8 * u : Nat) : Int) = U8 at *
  generalize hG : 1 + (N + 7) / 8 = ND at *
  generalize (N + 7) / 8 = N8 at *
  generalize hEE : elB k = EE at *
  have HB := hid q1.bel
  clear hk HE eT hkb hEE q1 hB1 hle hnd hN hNN hG
  go_wp2_with (first | (go_at_call 8; (with_reducible refine c1.mono ?_); rintro e w' ⟨rfl, hw⟩; (have hw' := hw.symm); subst hw'; clear hw; clear c1) | (go_at_call 18; (with_reducible refine (cw _).mono ?_); rintro e w' ⟨rfl, hw⟩; (have hw' := hw.symm); subst hw'; clear hw) | (go_at_call 14; (with_reducible refine (awake9_c _).mono ?_); rintro e WF ⟨rfl, hBF⟩; (have HBF := hid hBF); clear hBF))
  go_ret
  exact ⟨rfl, HB.out.trans (HBF.out.mono HB.out.size)⟩
end Go.Proofs.YtenpopelbmeemaaGreat.W
