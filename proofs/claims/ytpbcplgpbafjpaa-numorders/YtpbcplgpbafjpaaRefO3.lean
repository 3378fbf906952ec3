/- Contracts of the reference of package num: the order of two numbers. -/
import Derived.Test.YtpbcplgpbafjpaaNumO
namespace Go.Proofs.Ytpbcplgpbafjpaa.W
open Go.ChangeShapes Go.WideShapes Go.RowKit

/-- what Order answers: the order, and whether there is one -/
def ordN (o : Int) : Int := if o = 2 then 0 else o
def ordOK (o : Int) : Bool := decide (o ≠ 2)

set_option maxHeartbeats 800000 in
theorem refTrunc_in (a v : Int) (h0 : 0 ≤ a) (h1 : a < 18446744073709551616) (hv : floatToIntVal .f64 a.toNat .i64 = some v) (hn : nanB a = false) (hf : fitsB a = true) (w : World) :
    Calls Try.prog 85 #[.int .u64 a] w fun e w' => e = .returned (.tuple #[.int .i64 v, .int .i64 0]) ∧ w' = w := by
  have hc : ∀ w, (convert 55 2 (.float .f64 a.toNat)).run Try.prog w = .ok (.int .i64 v) w := fun w => run_convert_float_int w 55 2 .f64 .i64 a.toNat v (by rw [Try.underlying55]; rfl) Try.underlying2 hv
  unfold fitsB at hf
  rw [Bool.and_eq_true, Bool.or_eq_true] at hf
  obtain ⟨g1, g2⟩ := hf
  have g2' : FloatKind.f64.format.order a.toNat 4890909195324358656 = some .lt := eq_of_beq g2
  rcases g1 with g1 | g1
  · have g1' : FloatKind.f64.format.order a.toNat 14114281232179134464 = some .gt := eq_of_beq g1
    clear g1 g2
    go_enter Try.func85, Try.ntmps85
    go_wp2_with (first | (go_at_call 74; refine (refDouble_c _ _).mono ?_; rintro e w' ⟨rfl, rfl⟩) | (go_at_call 69; refine (refNaN_c _ (by omega) (by omega) _).mono ?_; rw [hn]; rintro e w' ⟨rfl, rfl⟩))
    go_ret2
    exact ⟨rfl, rfl⟩
  · have g1' : FloatKind.f64.format.order a.toNat 14114281232179134464 = some .eq := eq_of_beq g1
    clear g1 g2
    go_enter Try.func85, Try.ntmps85
    go_wp2_with (first | (go_at_call 74; refine (refDouble_c _ _).mono ?_; rintro e w' ⟨rfl, rfl⟩) | (go_at_call 69; refine (refNaN_c _ (by omega) (by omega) _).mono ?_; rw [hn]; rintro e w' ⟨rfl, rfl⟩))
    go_ret2
    exact ⟨rfl, rfl⟩
set_option maxHeartbeats 800000 in
theorem refTrunc_out (a : Int) (h0 : 0 ≤ a) (h1 : a < 18446744073709551616) (hn : nanB a = false) (hC : (FloatKind.f64.format.order a.toNat 4890909195324358656 = some .gt ∨ FloatKind.f64.format.order a.toNat 4890909195324358656 = some .eq) ∨ (FloatKind.f64.format.order a.toNat 4890909195324358656 = some .lt ∧ FloatKind.f64.format.order a.toNat 14114281232179134464 = some .lt)) (w : World) :
    Calls Try.prog 85 #[.int .u64 a] w fun e w' => e = .returned (.tuple #[.int .i64 0, .int .i64 13]) ∧ w' = w := by
  rcases hC with (g1 | g1) | ⟨g1, g2⟩
  all_goals
    go_enter Try.func85, Try.ntmps85
    go_wp2_with (first | (go_at_call 74; refine (refDouble_c _ _).mono ?_; rintro e w' ⟨rfl, rfl⟩) | (go_at_call 69; refine (refNaN_c _ (by omega) (by omega) _).mono ?_; rw [hn]; rintro e w' ⟨rfl, rfl⟩))
    go_ret2
    exact ⟨rfl, rfl⟩
set_option maxHeartbeats 2000000 in
theorem refOrder_whole (i u j v : Int) (w : World) :
    Calls Try.prog 68 #[.agg #[.bool true, .int .i64 i, .int .u64 u], .agg #[.bool true, .int .i64 j, .int .u64 v]] w fun e w' => e = .returned (.tuple #[.int .i64 (cmpI i j), .bool true]) ∧ Gr w w' := by
  have hC : (i < j ∧ cmpI i j = -1) ∨ (¬ i < j ∧ j < i ∧ cmpI i j = 1) ∨ (¬ i < j ∧ ¬ j < i ∧ cmpI i j = 0) := by
    rcases Int.lt_trichotomy i j with h | h | h
    · exact Or.inl ⟨h, cmpI_lt h⟩
    · exact Or.inr (Or.inr ⟨by omega, by omega, cmpI_eq h⟩)
    · exact Or.inr (Or.inl ⟨by omega, h, cmpI_gt h⟩)
  rcases hC with ⟨h1, h3⟩ | ⟨h1, h2, h3⟩ | ⟨h1, h2, h3⟩
  all_goals
    rw [h3]
    clear h3
    go_enter Try.func68, Try.ntmps68
    go_wp2
    go_ret2
    exact ⟨rfl, ((Gr.refl _).alloc _).alloc _⟩
set_option maxHeartbeats 2000000 in
theorem refOrder_doubles (i u j v : Int) (u0 : 0 ≤ u) (u1 : u < 18446744073709551616) (v0 : 0 ≤ v) (v1 : v < 18446744073709551616) (w : World) :
    Calls Try.prog 68 #[.agg #[.bool false, .int .i64 i, .int .u64 u], .agg #[.bool false, .int .i64 j, .int .u64 v]] w fun e w' => e = .returned (.tuple #[.int .i64 (ordN (ordD u v)), .bool (ordOK (ordD u v))]) ∧ Gr w w' := by
  have c1 := refLess_c u v
  have c2 := refEqual_c u v
  have c3 := refLess_c v u
  rcases ordD_cases u v u0 u1 v0 v1 with ⟨h1, h4⟩ | ⟨h1, h2, h3, h4⟩ | ⟨h1, h2, h3, h4⟩ | ⟨h1, h2, h3, h4⟩
  all_goals
    rw [h4]
    (try rw [h1] at c1)
    (try rw [h2] at c2)
    (try rw [h3] at c3)
    clear h4
    go_enter Try.func68, Try.ntmps68
    go_wp2_with (first | (go_at_call 83; (with_reducible refine (c1 _).mono ?_); rintro e w' ⟨rfl, rfl⟩) | (go_at_call 84; (with_reducible refine (c2 _).mono ?_); rintro e w' ⟨rfl, rfl⟩) | (go_at_call 83; (with_reducible refine (c3 _).mono ?_); rintro e w' ⟨rfl, rfl⟩))
    go_ret2
    exact ⟨rfl, ((Gr.refl _).alloc _).alloc _⟩
set_option maxHeartbeats 4000000 in
theorem refOrder_core (i u j v f n e o : Int) (nb eq ok : Bool) (w : World)
    (hC : (nb = true ∧ o = 0 ∧ ok = false) ∨ (nb = false ∧ ok = true ∧ ((e = 13 ∧ 9223372036854775808 ≤ v ∧ o = 1) ∨ (e = 13 ∧ ¬ 9223372036854775808 ≤ v ∧ o = -1) ∨ (e = 0 ∧ n < i ∧ o = 1) ∨ (e = 0 ∧ ¬ n < i ∧ i < n ∧ o = -1) ∨ (e = 0 ∧ ¬ n < i ∧ ¬ i < n ∧ eq = false ∧ o = -1) ∨ (e = 0 ∧ ¬ n < i ∧ ¬ i < n ∧ eq = true ∧ o = 0))))
    (c1 : ∀ w, Calls Try.prog 69 #[.int .u64 v] w fun o w' => o = .returned (.bool nb) ∧ w' = w)
    (c2 : ∀ w, Calls Try.prog 62 #[.int .u64 v] w fun o w' => o = .returned (.int .u64 f) ∧ ∃ m, w' = w.drewN m)
    (c3 : nb = false → ∀ w, Calls Try.prog 85 #[.int .u64 f] w fun o w' => o = .returned (.tuple #[.int .i64 n, .int .i64 e]) ∧ w' = w)
    (c4 : ∀ w, Calls Try.prog 84 #[.int .u64 f, .int .u64 v] w fun o w' => o = .returned (.bool eq) ∧ w' = w) :
    Calls Try.prog 68 #[.agg #[.bool true, .int .i64 i, .int .u64 u], .agg #[.bool false, .int .i64 j, .int .u64 v]] w fun e w' => e = .returned (.tuple #[.int .i64 o, .bool ok]) ∧ Gr w w' := by
  rcases hC with ⟨rfl, rfl, rfl⟩ | ⟨rfl, rfl, h⟩
  · clear c3
    go_enter Try.func68, Try.ntmps68
    go_wp2_with (go_at_call 69; (with_reducible refine (c1 _).mono ?_); rintro e w' ⟨rfl, rfl⟩)
    go_ret2
    exact ⟨rfl, ((Gr.refl _).alloc _).alloc _⟩
  · have d3 := c3 rfl
    clear c3
    rcases h with ⟨rfl, h1, rfl⟩ | ⟨rfl, h1, rfl⟩ | ⟨rfl, h1, rfl⟩ | ⟨rfl, h1, h2, rfl⟩ | ⟨rfl, h1, h2, rfl, rfl⟩ | ⟨rfl, h1, h2, rfl, rfl⟩
    all_goals
      go_enter Try.func68, Try.ntmps68
      go_wp2_with (first | (go_at_call 69; (with_reducible refine (c1 _).mono ?_); rintro e w' ⟨rfl, rfl⟩) | (go_at_call 62; (with_reducible refine (c2 _).mono ?_); rintro e w' ⟨rfl, m, rfl⟩) | (go_at_call 85; (with_reducible refine (d3 _).mono ?_); rintro e w' ⟨rfl, rfl⟩) | (go_at_call 84; (with_reducible refine (c4 _).mono ?_); rintro e w' ⟨rfl, rfl⟩))
      go_ret2
      exact ⟨rfl, (((Gr.refl _).alloc _).alloc _).draw _⟩
/-! ### by the exact numbers -/
theorem inf_keys : 9223372036854775808 * (one1 : Int) ≤ keyI 9218868437227405312 ∧ keyI 18442240474082181120 < -9223372036854775808 * (one1 : Int) := by decide +kernel
theorem sign_bits (v : Int) (v0 : 0 ≤ v) (v1 : v < 18446744073709551616) (hn : nanB v = false) : (v < 9223372036854775808 → 0 ≤ keyI v) ∧ (9223372036854775808 ≤ v → keyI v ≤ 0) := by
  have P := one1_int
  cases hf : finB v with
  | false =>
    have hm : v % 9223372036854775808 = 9218868437227405312 := by
      simp only [finB, decide_eq_false_iff_not] at hf
      simp only [nanB, decide_eq_false_iff_not] at hn
      omega
    have : v = 9218868437227405312 ∨ v = 18442240474082181120 := by omega
    obtain ⟨k1, k2⟩ := inf_keys
    rcases this with rfl | rfl
    · exact ⟨fun _ => by omega, fun h => by omega⟩
    · exact ⟨fun h => by omega, fun _ => by omega⟩
  | true =>
    obtain ⟨s, m, p, e⟩ := fin_read v hf
    obtain ⟨q1, q2, q3, q4, hx⟩ := read_number (by omega) e
    unfold keyI
    rw [e]
    simp only [key, signed_v]
    generalize m * 2 ^ (p + 1074).toNat = V at *
    have hX : (p + 1074).toNat * 4503599627370496 + m < 9223372036854775808 := by omega
    generalize (p + 1074).toNat * 4503599627370496 + m = X at *
    cases s
    · simp only [Bool.false_eq_true, if_false] at hx ⊢
      exact ⟨fun _ => by omega, fun _ => by omega⟩
    · simp only [if_true] at hx ⊢
      exact ⟨fun _ => by omega, fun _ => by omega⟩
theorem ord_some {x y : Int} {o : Option Ordering} (h : o = some (compare x y)) : (x < y → o = some .lt) ∧ (x = y → o = some .eq) ∧ (y < x → o = some .gt) := by
  subst h
  exact ⟨fun g => eq_of_beq (by rw [cmp_lt]; exact decide_eq_true g), fun g => eq_of_beq (by rw [cmp_eq]; exact decide_eq_true g), fun g => eq_of_beq (by rw [cmp_gt]; exact decide_eq_true g)⟩
theorem refTrunc_far (a : Int) (h0 : 0 ≤ a) (h1 : a < 18446744073709551616) (hn : nanB a = false) (hC : 9223372036854775808 * (one1 : Int) ≤ keyI a ∨ keyI a < -9223372036854775808 * one1) (w : World) :
    Calls Try.prog 85 #[.int .u64 a] w fun e w' => e = .returned (.tuple #[.int .i64 0, .int .i64 13]) ∧ w' = w := by
  have P := one1_int
  have o1 := ord_some (order_keyI a 14114281232179134464 h0 h1 (by decide) (by decide) hn (by decide))
  have o2 := ord_some (order_keyI a 4890909195324358656 h0 h1 (by decide) (by decide) hn (by decide))
  rw [key_bot] at o1
  rw [key_top] at o2
  refine refTrunc_out a h0 h1 hn ?_ w
  rcases hC with h | h
  · by_cases g : 9223372036854775808 * (one1 : Int) < keyI a
    · exact Or.inl (Or.inl (o2.2.2 g))
    · exact Or.inl (Or.inr (o2.2.1 (by omega)))
  · exact Or.inr ⟨o2.1 (by omega), o1.1 h⟩
theorem refOrder_mixed (i u j v : Int) (i0 : -9223372036854775808 ≤ i) (i1 : i < 9223372036854775808) (v0 : 0 ≤ v) (v1 : v < 18446744073709551616) (w : World) :
    Calls Try.prog 68 #[.agg #[.bool true, .int .i64 i, .int .u64 u], .agg #[.bool false, .int .i64 j, .int .u64 v]] w fun e w' => e = .returned (.tuple #[.int .i64 (ordN (ordM i v)), .bool (ordOK (ordM i v))]) ∧ Gr w w' := by
  have P := one1_int
  have x1 : i * (one1 : Int) < 9223372036854775808 * one1 := Int.mul_lt_mul_of_pos_right i1 P
  have x2 : -9223372036854775808 * (one1 : Int) ≤ i * one1 := Int.mul_le_mul_of_nonneg_right i0 (by omega)
  cases hn : nanB v with
  | true =>
    have e : ordM i v = 2 := by unfold ordM; rw [if_pos hn]
    rw [e]
    exact refOrder_core i u j v (floorI v) 0 0 0 true (equalI (floorI v) v) false w (Or.inl ⟨rfl, rfl, rfl⟩) (by have := refNaN_c v v0 v1; rw [hn] at this; exact this) (refFloor_c v v0 v1) (fun h => by cases h) (refEqual_c _ _)
  | false =>
    have c1 := refNaN_c v v0 v1
    rw [hn] at c1
    have e : ordM i v = cmpI (i * one1) (keyI v) := by unfold ordM; rw [if_neg (by rw [hn]; decide)]
    rw [e]
    obtain ⟨r1, r2⟩ := floorI_range v
    have nf : nanB (floorI v) = false := by rw [floorI_nan v v0, hn]
    obtain ⟨b1, b2⟩ := sign_bits v v0 v1 hn
    -- beyond all whole numbers
    have far : ∀ hF : 9223372036854775808 * (one1 : Int) ≤ keyI (floorI v) ∨ keyI (floorI v) < -9223372036854775808 * one1, (9223372036854775808 * (one1 : Int) ≤ keyI (floorI v) → 9223372036854775808 * (one1 : Int) ≤ keyI v) → (keyI (floorI v) < -9223372036854775808 * (one1 : Int) → keyI v < -9223372036854775808 * (one1 : Int)) →
        Calls Try.prog 68 #[.agg #[.bool true, .int .i64 i, .int .u64 u], .agg #[.bool false, .int .i64 j, .int .u64 v]] w fun e w' => e = .returned (.tuple #[.int .i64 (ordN (cmpI (i * one1) (keyI v))), .bool (ordOK (cmpI (i * one1) (keyI v)))]) ∧ Gr w w' := by
      intro hF k1 k2
      refine refOrder_core i u j v (floorI v) 0 13 _ false (equalI (floorI v) v) _ w ?_ c1 (refFloor_c v v0 v1) (fun _ => refTrunc_far _ r1 r2 nf hF) (refEqual_c _ _)
      rcases hF with h | h
      · have := k1 h
        rw [cmpI_lt (by omega)]
        exact Or.inr ⟨rfl, rfl, Or.inr (Or.inl ⟨rfl, (fun g => by have := b2 g; omega), rfl⟩)⟩
      · have := k2 h
        rw [cmpI_gt (by omega)]
        have hv2 : 9223372036854775808 ≤ v := by
          by_cases g : v < 9223372036854775808
          · have := b1 g; omega
          · omega
        exact Or.inr ⟨rfl, rfl, Or.inl ⟨rfl, hv2, rfl⟩⟩
    cases hf : finB v with
    | false =>
      have ef := floor_inf v v0 v1 hn hf
      have hv : v = 9218868437227405312 ∨ v = 18442240474082181120 := by
        simp only [finB, decide_eq_false_iff_not] at hf
        simp only [nanB, decide_eq_false_iff_not] at hn
        omega
      obtain ⟨k1, k2⟩ := inf_keys
      refine far ?_ (by rw [ef]; exact id) (by rw [ef]; exact id)
      rw [ef]
      rcases hv with h | h
      · rw [h]; exact Or.inl k1
      · rw [h]; exact Or.inr k2
    | true =>
      obtain ⟨ff, -, q, q1, q2, q3⟩ := floor_key v v0 v1 hf
      by_cases hq : -9223372036854775808 ≤ q ∧ q < 9223372036854775808
      · obtain ⟨t1, t2⟩ := trunc_whole (floorI v) q r1 r2 ff q1 hq.1 hq.2
        refine refOrder_core i u j v (floorI v) q 0 _ false (equalI (floorI v) v) _ w ?_ c1 (refFloor_c v v0 v1) (fun _ => refTrunc_in _ _ r1 r2 t1 nf t2) (refEqual_c _ _)
        refine Or.inr ⟨rfl, ?_⟩
        by_cases g1 : q < i
        · have : (q + 1) * (one1 : Int) ≤ i * one1 := Int.mul_le_mul_of_nonneg_right (by omega) (by omega)
          rw [Int.add_mul] at this
          rw [cmpI_gt (by omega)]
          exact ⟨rfl, Or.inr (Or.inr (Or.inl ⟨rfl, g1, rfl⟩))⟩
        · by_cases g2 : i < q
          · have : i * (one1 : Int) < q * one1 := Int.mul_lt_mul_of_pos_right g2 P
            rw [cmpI_lt (by omega)]
            exact ⟨rfl, Or.inr (Or.inr (Or.inr (Or.inl ⟨rfl, g1, g2, rfl⟩)))⟩
          · have hi : i = q := by omega
            subst hi
            have ee : equalI (floorI v) v = decide (i * (one1 : Int) = keyI v) := by rw [equalI_key _ _ r1 r2 v0 v1 nf hn, q1]
            by_cases g3 : i * (one1 : Int) = keyI v
            · rw [cmpI_eq g3]
              exact ⟨rfl, Or.inr (Or.inr (Or.inr (Or.inr (Or.inr ⟨rfl, g1, g2, by rw [ee]; exact decide_eq_true g3, rfl⟩))))⟩
            · rw [cmpI_lt (by omega)]
              exact ⟨rfl, Or.inr (Or.inr (Or.inr (Or.inr (Or.inl ⟨rfl, g1, g2, by rw [ee]; exact decide_eq_false g3, rfl⟩))))⟩
      · have hF : 9223372036854775808 * (one1 : Int) ≤ keyI (floorI v) ∨ keyI (floorI v) < -9223372036854775808 * one1 := by
          rw [q1]
          by_cases g : q < -9223372036854775808
          · exact Or.inr (Int.mul_lt_mul_of_pos_right g P)
          · exact Or.inl (Int.mul_le_mul_of_nonneg_right (by omega) (by omega))
        refine far hF (by rw [q1]; omega) ?_
        rw [q1]
        intro h
        have h2 : q < -9223372036854775808 := Int.lt_of_mul_lt_mul_right h (by omega)
        have : (q + 1) * (one1 : Int) ≤ -9223372036854775808 * one1 := Int.mul_le_mul_of_nonneg_right (by omega) (by omega)
        rw [Int.add_mul] at this
        omega
set_option maxHeartbeats 2000000 in
theorem refOrder_turned (i u j v n m : Int) (ok : Bool) (hm : IntKind.i64.wrap (-n) = m) (w : World)
    (c : ∀ w, Calls Try.prog 68 #[.agg #[.bool true, .int .i64 j, .int .u64 v], .agg #[.bool false, .int .i64 i, .int .u64 u]] w fun o w' => o = .returned (.tuple #[.int .i64 n, .bool ok]) ∧ Gr w w') :
    Calls Try.prog 68 #[.agg #[.bool false, .int .i64 i, .int .u64 u], .agg #[.bool true, .int .i64 j, .int .u64 v]] w fun e w' => e = .returned (.tuple #[.int .i64 m, .bool ok]) ∧ Gr w w' := by
  go_enter Try.func68, Try.ntmps68
  go_wp2_with (go_at_call 68; (with_reducible refine (c _).mono ?_); rintro e w' ⟨rfl, hg⟩)
  go_ret2
  exact ⟨rfl, hg.of_alloc.of_alloc⟩
theorem refOrder_c (a b : Bool) (i u j v : Int) (h : inN i u) (k : inN j v) (w : World) :
    Calls Try.prog 68 #[.agg #[.bool a, .int .i64 i, .int .u64 u], .agg #[.bool b, .int .i64 j, .int .u64 v]] w fun e w' => e = .returned (.tuple #[.int .i64 (ordN (ordI a i u b j v)), .bool (ordOK (ordI a i u b j v))]) ∧ Gr w w' := by
  obtain ⟨⟨i0, i1⟩, u0, u1⟩ := h
  obtain ⟨⟨j0, j1⟩, v0, v1⟩ := k
  cases a <;> cases b
  · exact refOrder_doubles i u j v u0 u1 v0 v1 w
  · have e : ordI false i u true j v = turnI (ordM j u) := rfl
    rw [e]
    have hc : ordN (turnI (ordM j u)) = -(ordN (ordM j u)) ∧ ordOK (turnI (ordM j u)) = ordOK (ordM j u) ∧ IntKind.i64.wrap (-(ordN (ordM j u))) = -(ordN (ordM j u)) := by
      rcases ordM_four j u with h | h | h | h <;> rw [h] <;> decide
    rw [hc.1, hc.2.1]
    exact refOrder_turned i u j v _ _ _ hc.2.2 w (refOrder_mixed j v i u j0 j1 u0 u1)
  · exact refOrder_mixed i u j v i0 i1 v0 v1 w
  · have e : ordI true i u true j v = cmpI i j := rfl
    rw [e]
    have hc : ordN (cmpI i j) = cmpI i j ∧ ordOK (cmpI i j) = true := by
      rcases cmpI_three i j with h | h | h <;> rw [h] <;> decide
    rw [hc.1, hc.2]
    exact refOrder_whole i u j v w
theorem ordI_four (a b : Bool) (i u j v : Int) : ordI a i u b j v = -1 ∨ ordI a i u b j v = 0 ∨ ordI a i u b j v = 1 ∨ ordI a i u b j v = 2 := by
  cases a <;> cases b
  · show ordD u v = -1 ∨ ordD u v = 0 ∨ ordD u v = 1 ∨ ordD u v = 2
    unfold ordD
    split
    · simp
    · rcases cmpI_three (keyI u) (keyI v) with h | h | h <;> simp [h]
  · show turnI (ordM j u) = -1 ∨ turnI (ordM j u) = 0 ∨ turnI (ordM j u) = 1 ∨ turnI (ordM j u) = 2
    rcases ordM_four j u with h | h | h | h <;> rw [h] <;> decide
  · exact ordM_four i v
  · show cmpI i j = -1 ∨ cmpI i j = 0 ∨ cmpI i j = 1 ∨ cmpI i j = 2
    rcases cmpI_three i j with h | h | h <;> rw [h] <;> decide
set_option maxHeartbeats 2000000 in
theorem ref3Less_c (a b : Bool) (i u j v : Int) (h : inN i u) (k : inN j v) (w : World) :
    Calls Try.prog 29 #[.agg #[.bool a, .int .i64 i, .int .u64 u], .agg #[.bool b, .int .i64 j, .int .u64 v]] w fun e w' => e = .returned (.bool (lessN a i u b j v)) ∧ Gr w w' := by
  have c := refOrder_c a b i u j v h k
  unfold lessN
  rcases ordI_four a b i u j v with o | o | o | o
  all_goals
    rw [o] at c ⊢
    go_enter Try.func29, Try.ntmps29
    go_wp2_with (go_at_call 68; refine (c _).mono ?_; rintro e w' ⟨rfl, hg⟩)
    go_ret
    exact ⟨rfl, hg.of_alloc.of_alloc⟩
set_option maxHeartbeats 2000000 in
theorem ref3LessEq_c (a b : Bool) (i u j v : Int) (h : inN i u) (k : inN j v) (w : World) :
    Calls Try.prog 31 #[.agg #[.bool a, .int .i64 i, .int .u64 u], .agg #[.bool b, .int .i64 j, .int .u64 v]] w fun e w' => e = .returned (.bool (lessEqN a i u b j v)) ∧ Gr w w' := by
  have c := refOrder_c a b i u j v h k
  unfold lessEqN
  rcases ordI_four a b i u j v with o | o | o | o
  all_goals
    rw [o] at c ⊢
    go_enter Try.func31, Try.ntmps31
    go_wp2_with (go_at_call 68; refine (c _).mono ?_; rintro e w' ⟨rfl, hg⟩)
    go_ret
    exact ⟨rfl, hg.of_alloc.of_alloc⟩
set_option maxHeartbeats 2000000 in
theorem ref3Equal_c (a b : Bool) (i u j v : Int) (h : inN i u) (k : inN j v) (w : World) :
    Calls Try.prog 33 #[.agg #[.bool a, .int .i64 i, .int .u64 u], .agg #[.bool b, .int .i64 j, .int .u64 v]] w fun e w' => e = .returned (.bool (equalN a i u b j v)) ∧ Gr w w' := by
  have c := refOrder_c a b i u j v h k
  unfold equalN
  rcases ordI_four a b i u j v with o | o | o | o
  all_goals
    rw [o] at c ⊢
    go_enter Try.func33, Try.ntmps33
    go_wp2_with (go_at_call 68; refine (c _).mono ?_; rintro e w' ⟨rfl, hg⟩)
    go_ret
    exact ⟨rfl, hg.of_alloc.of_alloc⟩
end Go.Proofs.Ytpbcplgpbafjpaa.W
