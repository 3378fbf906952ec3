import Derived.Test.YtenpopelbmeemaaGreatBnAJ
/- BufNeeds: a part of the walk (BnOk). -/
namespace Go.Proofs.YtenpopelbmeemaaGreat.W
open Go.ChangeShapes Go.WideShapes Go.RowKit Go.Shelf
set_option linter.unusedVariables false
set_option maxRecDepth 100000 in
set_option maxHeartbeats 1000000 in
theorem bn_fits9 (n u : Nat) (hu : u ≤ 2000) (hle : n ≤ 8 * u / elT 9) (hnd : ¬ u < 1 + (n * elT 9 + 7) / 8) (w : World) : Calls Tryz.prog 6 #[.int .i64 9, .int .i64 n, .int .i64 u] w fun e w' => e = .returned (.bool true) ∧ Below w.heap.size w w' := by
  have hk : thK 9 := .inl rfl
  have HE : Hid ((8 : Nat) = 1 ∨ (8 : Nat) = 2 ∨ (8 : Nat) = 4 ∨ (8 : Nat) = 8) := hid (.inr (.inr (.inr rfl)))
  have a1 : ¬ (u : Int) < 0 := by omega
  have a2 : ¬ (u : Int) > 2000 := by omega
  have cn := hf_new (Below.refl w.heap.size w) u (by omega)
  have eT : elT 9 = 8 := rfl
  obtain ⟨r1, r1', r1'', r2, r3, r3'⟩ := bn_ar1 (8) u HE.out hu
  rw [show ((8 : Nat) : Int) = 8 from rfl] at r2
  have cw := fun w => width_c 9 w
  rw [show ((elB 9 : Nat) : Int) = 0 from rfl] at cw
  go_enter Tryz.func6, Tryz.ntmps6
  go_upto_region 6 with (go_at_call 7; (with_reducible refine cn.mono ?_); rintro e W1 ⟨hb, rfl, q1, hB1⟩; clear cn)
  have hnd' : 1 + (n * elT 9 + 7) / 8 ≤ u := Nat.not_lt.1 hnd
  obtain ⟨b0, c1, cl, cr⟩ := bn_pack q1 9 hk n _ rfl hnd'
  rw [eT] at cr
  clear hnd
  have hnd := hnd'
  clear hnd'
  have hN := bn_ar2 (8) u n (.inr (.inr (.inr rfl))) hu (by rw [eT] at hle; exact hle)
  rw [eT] at hle hnd
  obtain ⟨N, hNN⟩ : ∃ N, n * (8) = N := ⟨_, rfl⟩
  rw [hNN] at hN hnd
  obtain ⟨s1, s1', s2, s2', s3, s4, s4', s5, s5'⟩ := bn_ar3 N n (8) hNN hN
  rw [show ((8 : Nat) : Int) = 8 from rfl] at s1 s1'
  have g0 : ¬ (n : Int) < 0 := Int.not_lt.2 (Int.natCast_nonneg n)
  have g1 : ¬ (n : Int) > ((8 * u / (8) : Nat) : Int) := bn_ngt hle
  have g2 : ¬ u < 1 + (N + 7) / 8 := Nat.not_lt.2 hnd
  have nw := bn_wn (.inr (.inr (.inr rfl))) hNN hN
  rw [hNN] at cr
  generalize 8 * u / (8) = Q8 at *
  generalize ((8 * u : Nat) : Int) = U8 at *
  generalize hG : 1 + (N + 7) / 8 = ND at *
  generalize (N + 7) / 8 = N8 at *
  have HCL := hid cl
  have HCR := hid cr
  clear hk HE eT q1 hB1 hle hnd hN hNN hG cl cr
  go_upto_region 17 with (first | (go_at_call 8; (with_reducible refine c1.mono ?_); rintro e W2 ⟨rfl, q2⟩; clear c1) | (go_at_call 18; (with_reducible refine (cw _).mono ?_); rintro e w' ⟨rfl, hw⟩; (have hw' := hw.symm); subst hw'; clear hw))
  clear s1 s1' s2 s2' s3 s4 s4' s5 s5' r1 r1' r1'' r2 r3 r3' g1
  have Q2 := hid q2
  clear q2
  go_upto_region 19 with fail
  have q2 := Q2.out
  clear Q2
  have cl := HCL.out W2 q2
  go_upto_region 20 with (go_at_call 17; (with_reducible refine cl.mono ?_); rintro e W3 ⟨rfl, hB3⟩; clear cl)
  have q3 := q2.below' hB3
  have cr := HCR.out W3 q3
  have bA : Below W3.heap.size W3 (W3.alloc (.cells #[.int .u64 (b0 : Nat)] 22)) := (Below.refl _ W3).alloc (Nat.le_refl _) _
  have HB := hid (q3.bel.trans (bA.mono q3.bel.size))
  clear q2 q3 hB3 HCL HCR bA
  go_wp2_with (first | (go_at_call 19; (with_reducible refine cr.mono ?_); rintro e W4 ⟨rfl, hB4⟩; clear cr; (have HB4 := hid hB4); clear hB4) | (go_at_call 14; (with_reducible refine (awake9_c _).mono ?_); rintro e WF ⟨rfl, hBF⟩; (have HBF := hid hBF); clear hBF))
  go_ret
  have hBx := HB.out.trans (HB4.out.mono HB.out.size)
  exact ⟨rfl, hBx.trans (HBF.out.mono hBx.size)⟩
set_option maxRecDepth 100000 in
set_option maxHeartbeats 1000000 in
theorem bn_fitsb (k : Int) (hkb : elB k > 0) (hk9 : ¬ k = 9) (h5 : ¬ k < 5) (h9 : ¬ k > 9) (n u : Nat) (hu : u ≤ 2000) (hle : n ≤ 8 * u / elT k) (hnd : ¬ u < 1 + (n * elT k + 7) / 8) (w : World) : Calls Tryz.prog 6 #[.int .i64 k, .int .i64 n, .int .i64 u] w fun e w' => e = .returned (.bool true) ∧ Below w.heap.size w w' := by
  have hk : thK k := .inr hkb
  have HE : Hid (elB k = 1 ∨ elB k = 2 ∨ elB k = 4 ∨ elB k = 8) := hid (by rcases elB_cases k with h | h | h | h | h <;> omega)
  have a1 : ¬ (u : Int) < 0 := by omega
  have a2 : ¬ (u : Int) > 2000 := by omega
  have cn := hf_new (Below.refl w.heap.size w) u (by omega)
  have eT : elT k = elB k := by unfold elT; rw [if_neg hk9]
  obtain ⟨r1, r1', r1'', r2, r3, r3'⟩ := bn_ar1 (elB k) u HE.out hu
  have cw := fun w => width_c k w
  have e1 : ¬ ((elB k : Nat) : Int) < 1 := by omega
  have e0 : ¬ ((elB k : Nat) : Int) = 0 := by omega
  go_enter Tryz.func6, Tryz.ntmps6
  go_upto_region 6 with (go_at_call 7; (with_reducible refine cn.mono ?_); rintro e W1 ⟨hb, rfl, q1, hB1⟩; clear cn)
  have hnd' : 1 + (n * elT k + 7) / 8 ≤ u := Nat.not_lt.1 hnd
  obtain ⟨b0, c1, cl, cr⟩ := bn_pack q1 k hk n _ rfl hnd'
  rw [eT] at cr
  clear hnd
  have hnd := hnd'
  clear hnd'
  have hN := bn_ar2 (elB k) u n (HE.out) hu (by rw [eT] at hle; exact hle)
  rw [eT] at hle hnd
  obtain ⟨N, hNN⟩ : ∃ N, n * (elB k) = N := ⟨_, rfl⟩
  rw [hNN] at hN hnd
  obtain ⟨s1, s1', s2, s2', s3, s4, s4', s5, s5'⟩ := bn_ar3 N n (elB k) hNN hN
  have g0 : ¬ (n : Int) < 0 := Int.not_lt.2 (Int.natCast_nonneg n)
  have g1 : ¬ (n : Int) > ((8 * u / (elB k) : Nat) : Int) := bn_ngt hle
  have g2 : ¬ u < 1 + (N + 7) / 8 := Nat.not_lt.2 hnd
  have nw := bn_wn (HE.out) hNN hN
  rw [hNN] at cr
  generalize 8 * u / (elB k) = Q8 at *
  generalize ((8 * u : Nat) : Int) = U8 at *
  generalize hG : 1 + (N + 7) / 8 = ND at *
  generalize (N + 7) / 8 = N8 at *
  generalize hEE : elB k = EE at *
  have HCL := hid cl
  have HCR := hid cr
  clear hk HE eT hkb hEE q1 hB1 hle hnd hN hNN hG cl cr
  go_upto_region 17 with (first | (go_at_call 8; (with_reducible refine c1.mono ?_); rintro e W2 ⟨rfl, q2⟩; clear c1) | (go_at_call 18; (with_reducible refine (cw _).mono ?_); rintro e w' ⟨rfl, hw⟩; (have hw' := hw.symm); subst hw'; clear hw))
  clear s1 s1' s2 s2' s3 s4 s4' s5 s5' r1 r1' r1'' r2 r3 r3' g1
  have Q2 := hid q2
  clear q2
  go_upto_region 19 with fail
  have q2 := Q2.out
  clear Q2
  have cl := HCL.out W2 q2
  go_upto_region 20 with (go_at_call 17; (with_reducible refine cl.mono ?_); rintro e W3 ⟨rfl, hB3⟩; clear cl)
  have q3 := q2.below' hB3
  have cr := HCR.out W3 q3
  have bA : Below W3.heap.size W3 (W3.alloc (.cells #[.int .u64 (b0 : Nat)] 22)) := (Below.refl _ W3).alloc (Nat.le_refl _) _
  have HB := hid (q3.bel.trans (bA.mono q3.bel.size))
  clear q2 q3 hB3 HCL HCR bA
  go_wp2_with (first | (go_at_call 19; (with_reducible refine cr.mono ?_); rintro e W4 ⟨rfl, hB4⟩; clear cr; (have HB4 := hid hB4); clear hB4) | (go_at_call 14; (with_reducible refine (awake9_c _).mono ?_); rintro e WF ⟨rfl, hBF⟩; (have HBF := hid hBF); clear hBF))
  go_ret
  have hBx := HB.out.trans (HB4.out.mono HB.out.size)
  exact ⟨rfl, hBx.trans (HBF.out.mono hBx.size)⟩
end Go.Proofs.YtenpopelbmeemaaGreat.W
