/- The walk of the statement SoftWhole: it returns true at every two whole numbers. -/
import Derived.Test.YtignkihhhflelaaAwake
import Derived.Test.YtignkihhhflelaaF6
import Derived.OpenShut
import Derived.RowKit3
namespace Go.Proofs.Ytignkihhhflelaa.W
open Go.ChangeShapes Go.WideShapes Go.RowKit

theorem Grown.drewN {W w' : World} (h : Grown W w') (m : Nat) : Grown W (w'.drewN m) := h
set_option maxHeartbeats 2000000 in
theorem softWhole_skip (i j : Int) (h : i < -33554432 ∨ (¬ i < -33554432 ∧ 33554432 < i) ∨ (¬ i < -33554432 ∧ ¬ 33554432 < i ∧ j < -33554432) ∨ (¬ i < -33554432 ∧ ¬ 33554432 < i ∧ ¬ j < -33554432 ∧ 33554432 < j)) (w : World) :
    Calls Try.prog 8 #[.int .i64 i, .int .i64 j] w fun e w' => e = .returned (.bool true) ∧ Grown w w' := by
  rcases h with h1 | ⟨h1, h2⟩ | ⟨h1, h2, h3⟩ | ⟨h1, h2, h3, h4⟩
  all_goals
    go_enter Try.func8, Try.ntmps8
    go_wp2
    go_ret
    exact ⟨rfl, Grown.refl _⟩
set_option maxHeartbeats 4000000 in
theorem softWhole_core (i j ij a b s d p c q f : Int) (l e : Bool) (w : World) (h1 : -33554432 ≤ i) (h2 : i ≤ 33554432) (h3 : -33554432 ≤ j) (h4 : j ≤ 33554432)
    (hp1 : -1125899906842624 ≤ ij) (hp2 : ij ≤ 1125899906842624) (hp : i * j = ij)
    (cA : ∀ w, Calls Try.prog 24 #[.int .i64 i] w fun e w' => e = .returned (.int .u64 a) ∧ w' = w)
    (cB : ∀ w, Calls Try.prog 24 #[.int .i64 j] w fun e w' => e = .returned (.int .u64 b) ∧ w' = w)
    (cC : ∀ w, Calls Try.prog 24 #[.int .i64 ij] w fun e w' => e = .returned (.int .u64 c) ∧ w' = w)
    (c1 : ∀ w, Calls Try.prog 9 #[.int .u64 a, .int .u64 b] w fun e w' => e = .returned (.int .u64 s) ∧ ∃ m, w' = w.drewN m)
    (c2 : ∀ w, Calls Try.prog 11 #[.int .u64 a, .int .u64 b] w fun e w' => e = .returned (.int .u64 d) ∧ ∃ m, w' = w.drewN m)
    (c3 : ∀ w, Calls Try.prog 13 #[.int .u64 a, .int .u64 b] w fun e w' => e = .returned (.int .u64 p) ∧ ∃ m, w' = w.drewN m)
    (c4 : ∀ w, Calls Try.prog 15 #[.int .u64 c, .int .u64 b] w fun e w' => e = .returned (.int .u64 q) ∧ ∃ m, w' = w.drewN m)
    (c5 : ∀ w, Calls Try.prog 19 #[.int .u64 q] w fun e w' => e = .returned (.int .u64 f) ∧ ∃ m, w' = w.drewN m)
    (t1 : ∀ w, Calls Try.prog 22 #[.int .u64 s] w fun e w' => e = .returned (.tuple #[.int .i64 (i + j), .int .i64 0]) ∧ w' = w)
    (t2 : ∀ w, Calls Try.prog 22 #[.int .u64 d] w fun e w' => e = .returned (.tuple #[.int .i64 (i - j), .int .i64 0]) ∧ w' = w)
    (t3 : ∀ w, Calls Try.prog 22 #[.int .u64 p] w fun e w' => e = .returned (.tuple #[.int .i64 ij, .int .i64 0]) ∧ w' = w)
    (t4 : j ≠ 0 → ∀ w, Calls Try.prog 22 #[.int .u64 f] w fun e w' => e = .returned (.tuple #[.int .i64 i, .int .i64 0]) ∧ w' = w)
    (c6 : ∀ w, Calls Try.prog 30 #[.int .u64 a, .int .u64 b] w fun e w' => e = .returned (.bool l) ∧ w' = w)
    (c7 : ∀ w, Calls Try.prog 34 #[.int .u64 a, .int .u64 b] w fun x w' => x = .returned (.bool e) ∧ w' = w)
    (hl : l = decide (i < j)) (he : e = (i == j)) :
    Calls Try.prog 8 #[.int .i64 i, .int .i64 j] w fun e w' => e = .returned (.bool true) ∧ Grown w w' := by
  have g1 : ¬ i < -33554432 := by omega
  have g2 : ¬ 33554432 < i := by omega
  have g3 : ¬ j < -33554432 := by omega
  have g4 : ¬ 33554432 < j := by omega
  subst hl he
  by_cases hj : j = 0
  · clear t4
    have hj0 : (j != 0) = false := by rw [hj]; rfl
    have hj' := hid hj
    clear hj
    go_enter Try.func8, Try.ntmps8
    go_wp2_with (first | (go_at_call 24; with_reducible refine (cA _).mono ?_; rintro e w' ⟨rfl, rfl⟩) | (go_at_call 24; with_reducible refine (cB _).mono ?_; rintro e w' ⟨rfl, rfl⟩) | (go_at_call 9; with_reducible refine (c1 _).mono ?_; rintro e w' ⟨rfl, m, rfl⟩) | (go_at_call 11; with_reducible refine (c2 _).mono ?_; rintro e w' ⟨rfl, m, rfl⟩) | (go_at_call 13; with_reducible refine (c3 _).mono ?_; rintro e w' ⟨rfl, m, rfl⟩) | (go_at_call 22; with_reducible refine (t1 _).mono ?_; rintro e w' ⟨rfl, rfl⟩) | (go_at_call 22; with_reducible refine (t2 _).mono ?_; rintro e w' ⟨rfl, rfl⟩) | (go_at_call 22; with_reducible refine (t3 _).mono ?_; rintro e w' ⟨rfl, rfl⟩) | (go_at_call 30; with_reducible refine (c6 _).mono ?_; rintro e w' ⟨rfl, rfl⟩) | (go_at_call 34; with_reducible refine (c7 _).mono ?_; rintro e w' ⟨rfl, rfl⟩) | (go_at_call 21; refine (awake_c _).mono ?_; rintro e w' ⟨rfl, m, rfl⟩))
    go_ret
    exact ⟨rfl, Grown.drewN (Grown.refl _) _⟩
  · have t5 := t4 hj
    clear t4
    go_enter Try.func8, Try.ntmps8
    go_wp2_with (first | (go_at_call 24; with_reducible refine (cA _).mono ?_; rintro e w' ⟨rfl, rfl⟩) | (go_at_call 24; with_reducible refine (cB _).mono ?_; rintro e w' ⟨rfl, rfl⟩) | (go_at_call 24; with_reducible refine (cC _).mono ?_; rintro e w' ⟨rfl, rfl⟩) | (go_at_call 9; with_reducible refine (c1 _).mono ?_; rintro e w' ⟨rfl, m, rfl⟩) | (go_at_call 11; with_reducible refine (c2 _).mono ?_; rintro e w' ⟨rfl, m, rfl⟩) | (go_at_call 13; with_reducible refine (c3 _).mono ?_; rintro e w' ⟨rfl, m, rfl⟩) | (go_at_call 15; with_reducible refine (c4 _).mono ?_; rintro e w' ⟨rfl, m, rfl⟩) | (go_at_call 19; with_reducible refine (c5 _).mono ?_; rintro e w' ⟨rfl, m, rfl⟩) | (go_at_call 22; with_reducible refine (t1 _).mono ?_; rintro e w' ⟨rfl, rfl⟩) | (go_at_call 22; with_reducible refine (t2 _).mono ?_; rintro e w' ⟨rfl, rfl⟩) | (go_at_call 22; with_reducible refine (t3 _).mono ?_; rintro e w' ⟨rfl, rfl⟩) | (go_at_call 22; with_reducible refine (t5 _).mono ?_; rintro e w' ⟨rfl, rfl⟩) | (go_at_call 30; with_reducible refine (c6 _).mono ?_; rintro e w' ⟨rfl, rfl⟩) | (go_at_call 34; with_reducible refine (c7 _).mono ?_; rintro e w' ⟨rfl, rfl⟩) | (go_at_call 21; refine (awake_c _).mono ?_; rintro e w' ⟨rfl, m, rfl⟩))
    go_ret
    exact ⟨rfl, Grown.drewN (Grown.refl _) _⟩
theorem mul_bound (i j : Int) (h1 : -33554432 ≤ i) (h2 : i ≤ 33554432) (h3 : -33554432 ≤ j) (h4 : j ≤ 33554432) : -1125899906842624 ≤ i * j ∧ i * j ≤ 1125899906842624 := by
  have a : (i * j).natAbs ≤ 33554432 * 33554432 := by rw [Int.natAbs_mul]; exact Nat.mul_le_mul (by omega) (by omega)
  omega
theorem softWhole_walk (a0 : Int) (a1 : Int) (_w0 : (Lit.int .i64 a0).wf = true) (_w1 : (Lit.int .i64 a1).wf = true) (w : World) :
    Calls Try.prog 8 #[.int .i64 a0, .int .i64 a1] w fun e w' => e = .returned (.bool true) ∧ Grown w w' := by
  by_cases h1 : a0 < -33554432
  · exact softWhole_skip a0 a1 (Or.inl h1) w
  by_cases h2 : 33554432 < a0
  · exact softWhole_skip a0 a1 (Or.inr (Or.inl ⟨h1, h2⟩)) w
  by_cases h3 : a1 < -33554432
  · exact softWhole_skip a0 a1 (Or.inr (Or.inr (Or.inl ⟨h1, h2, h3⟩))) w
  by_cases h4 : 33554432 < a1
  · exact softWhole_skip a0 a1 (Or.inr (Or.inr (Or.inr ⟨h1, h2, h3, h4⟩))) w
  obtain ⟨b1, b2⟩ := mul_bound a0 a1 (by omega) (by omega) (by omega) (by omega)
  have P := one1_int
  obtain ⟨fa, ka⟩ := fromI_key a0 (by omega)
  obtain ⟨fb, kb⟩ := fromI_key a1 (by omega)
  obtain ⟨fc, kc⟩ := fromI_key (a0 * a1) (by omega)
  obtain ⟨ra1, ra2⟩ := fromI_range a0
  obtain ⟨rb1, rb2⟩ := fromI_range a1
  obtain ⟨rc1, rc2⟩ := fromI_range (a0 * a1)
  have na := fin_nan _ fa
  have nb := fin_nan _ fb
  -- the sum
  obtain ⟨s1, s2⟩ := add_exact (fromI a0) (fromI a1) (a0 + a1) ra2 rb2 fa fb (by rw [ka, kb, Int.add_mul]) (by omega)
  obtain ⟨rs1, rs2⟩ := opI_range .add (fromI a0) (fromI a1)
  obtain ⟨ts1, ts2⟩ := trunc_whole _ _ rs1 rs2 s1 s2 (by omega) (by omega)
  -- the difference
  obtain ⟨rn1, rn2⟩ := negI_range (fromI a1) rb1 rb2
  obtain ⟨d1, d2⟩ := add_exact (fromI a0) (negI (fromI a1)) (a0 - a1) ra2 rn2 fa (finB_neg _ fb) (by rw [ka, keyI_neg _ rb1 rb2 nb, kb, Int.sub_mul]; omega) (by omega)
  rw [sub_add _ _ rb1 rb2] at d1 d2
  obtain ⟨rd1, rd2⟩ := opI_range .sub (fromI a0) (fromI a1)
  obtain ⟨td1, td2⟩ := trunc_whole _ _ rd1 rd2 d1 d2 (by omega) (by omega)
  -- the product
  obtain ⟨p1, p2⟩ := mul_exact (fromI a0) (fromI a1) a0 a1 ra2 rb2 fa fb ka kb (by omega)
  obtain ⟨rp1, rp2⟩ := opI_range .mul (fromI a0) (fromI a1)
  obtain ⟨tp1, tp2⟩ := trunc_whole _ _ rp1 rp2 p1 p2 (by omega) (by omega)
  obtain ⟨rq1, rq2⟩ := opI_range .quo (fromI (a0 * a1)) (fromI a1)
  refine softWhole_core a0 a1 (a0 * a1) (fromI a0) (fromI a1) _ _ _ _ _ _ _ _ w (by omega) (by omega) (by omega) (by omega) b1 b2 rfl (softFromInt_c a0) (softFromInt_c a1) (softFromInt_c _) (softAdd_c _ _) (softSub_c _ _) (softMul_c _ _) (softDiv_c _ _) (softFloor_c _ rq1) (softTrunc_in _ _ ts1 ts2) (softTrunc_in _ _ td1 td2) (softTrunc_in _ _ tp1 tp2) ?_ (softLess_c _ _) (softEqual_c _ _) ?_ ?_
  · intro hj
    obtain ⟨q1, q2⟩ := div_exact (fromI (a0 * a1)) (fromI a1) a0 a1 rc2 rb2 fc fb kc kb hj (by omega) (by omega)
    obtain ⟨f1, -, q, k1, k2, k3⟩ := floor_key _ rq1 rq2 q1
    rw [q2] at k2 k3
    have e : q = a0 := quo_unique q a0 (a0 * one1) k2 k3 (Int.le_refl _) (by omega)
    rw [e] at k1
    obtain ⟨rf1, rf2⟩ := floorI_range (opI .quo (fromI (a0 * a1)) (fromI a1))
    obtain ⟨tf1, tf2⟩ := trunc_whole _ _ rf1 rf2 f1 k1 (by omega) (by omega)
    exact softTrunc_in _ _ tf1 tf2
  · rw [lessI_key _ _ ra1 ra2 rb1 rb2 na nb, ka, kb]
    exact decide_eq_decide.2 ⟨fun g => Int.lt_of_mul_lt_mul_right g (Int.le_of_lt P), fun g => Int.mul_lt_mul_of_pos_right g P⟩
  · rw [equalI_key _ _ ra1 ra2 rb1 rb2 na nb, ka, kb, Bool.eq_iff_iff]
    simp only [decide_eq_true_eq, beq_iff_eq]
    exact ⟨fun g => Int.eq_of_mul_eq_mul_right (Int.ne_of_gt P) g, fun g => by rw [g]⟩
end Go.Proofs.Ytignkihhhflelaa.W
