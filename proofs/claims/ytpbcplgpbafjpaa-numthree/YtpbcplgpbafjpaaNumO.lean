/- Contracts of package num: the order of two numbers, by their exact numbers. -/
import Derived.Test.YtpbcplgpbafjpaaNumA
import Derived.Test.YtpbcplgpbafjpaaF6
namespace Go.Proofs.Ytpbcplgpbafjpaa.W
open Go.ChangeShapes Go.WideShapes Go.RowKit

/-- -1, 0, 1 -/
def cmpI (x y : Int) : Int := if x < y then -1 else if y < x then 1 else 0
theorem cmpI_lt {x y : Int} (h : x < y) : cmpI x y = -1 := if_pos h
theorem cmpI_gt {x y : Int} (h : y < x) : cmpI x y = 1 := by unfold cmpI; rw [if_neg (by omega), if_pos h]
theorem cmpI_eq {x y : Int} (h : x = y) : cmpI x y = 0 := by unfold cmpI; rw [if_neg (by omega), if_neg (by omega)]
/-- the order of two doubles; of a whole number and a double; 2: one is a NaN -/
def ordD (u v : Int) : Int := if nanB u = true ∨ nanB v = true then 2 else cmpI (keyI u) (keyI v)
def ordM (i u : Int) : Int := if nanB u = true then 2 else cmpI (i * one1) (keyI u)
def turnI (o : Int) : Int := if o = 2 then 2 else -o
def ordI (a : Bool) (i u : Int) (b : Bool) (j v : Int) : Int := if a = true then (if b = true then cmpI i j else ordM i v) else if b = true then turnI (ordM j u) else ordD u v
theorem cmp_scale (i j : Int) : cmpI (i * one1) (j * one1) = cmpI i j := by
  have P := one1_int
  rcases Int.lt_trichotomy i j with h | h | h
  · rw [cmpI_lt h, cmpI_lt (Int.mul_lt_mul_of_pos_right h P)]
  · rw [cmpI_eq h, cmpI_eq (by rw [h])]
  · rw [cmpI_gt h, cmpI_gt (Int.mul_lt_mul_of_pos_right h P)]

set_option maxHeartbeats 400000 in
theorem cmpNaN_c (x : Int) (w : World) :
    Calls Try.prog 91 #[.int .i64 x] w fun e w' => e = .returned (.bool false) ∧ w' = w := by
  have hx : (x != x) = false := by simp
  go_enter Try.func91, Try.ntmps91
  go_wp2
  go_ret
  exact ⟨rfl, rfl⟩
set_option maxHeartbeats 400000 in
theorem compare_c (x y : Int) (w : World) :
    Calls Try.prog 79 #[.int .i64 x, .int .i64 y] w fun e w' => e = .returned (.int .i64 (cmpI x y)) ∧ w' = w := by
  have hC : (x < y ∧ cmpI x y = -1) ∨ (¬ x < y ∧ y < x ∧ cmpI x y = 1) ∨ (¬ x < y ∧ ¬ y < x ∧ cmpI x y = 0) := by
    unfold cmpI
    by_cases h1 : x < y
    · exact Or.inl ⟨h1, if_pos h1⟩
    · by_cases h2 : y < x
      · exact Or.inr (Or.inl ⟨h1, h2, by rw [if_neg h1, if_pos h2]⟩)
      · exact Or.inr (Or.inr ⟨h1, h2, by rw [if_neg h1, if_neg h2]⟩)
  rcases hC with ⟨h1, h3⟩ | ⟨h1, h2, h3⟩ | ⟨h1, h2, h3⟩
  all_goals
    rw [h3]
    clear h3
    go_enter Try.func79, Try.ntmps79
    go_wp2_with (go_at_call 91; refine (cmpNaN_c _ _).mono ?_; rintro e w' ⟨rfl, rfl⟩)
    go_ret
    exact ⟨rfl, rfl⟩
theorem ordD_cases (u v : Int) (u0 : 0 ≤ u) (u1 : u < 18446744073709551616) (v0 : 0 ≤ v) (v1 : v < 18446744073709551616) :
    (lessI u v = true ∧ ordD u v = -1) ∨ (lessI u v = false ∧ equalI u v = true ∧ lessI v u = false ∧ ordD u v = 0) ∨ (lessI u v = false ∧ equalI u v = false ∧ lessI v u = true ∧ ordD u v = 1) ∨ (lessI u v = false ∧ equalI u v = false ∧ lessI v u = false ∧ ordD u v = 2) := by
  unfold ordD
  by_cases h : nanB u = true ∨ nanB v = true
  · obtain ⟨n1, n2, n3⟩ := less_nan u v u0 v0 h
    obtain ⟨n4, n5, n6⟩ := less_nan v u v0 u0 h.symm
    exact Or.inr (Or.inr (Or.inr ⟨n1, n2, n4, if_pos h⟩))
  · have nu : nanB u = false := by cases g : nanB u; · rfl
                                   · exact absurd (Or.inl g) h
    have nv : nanB v = false := by cases g : nanB v; · rfl
                                   · exact absurd (Or.inr g) h
    rw [if_neg h, lessI_key u v u0 u1 v0 v1 nu nv, lessI_key v u v0 v1 u0 u1 nv nu, equalI_key u v u0 u1 v0 v1 nu nv]
    rcases Int.lt_trichotomy (keyI u) (keyI v) with g | g | g
    · exact Or.inl ⟨decide_eq_true g, cmpI_lt g⟩
    · exact Or.inr (Or.inl ⟨decide_eq_false (by omega), decide_eq_true g, decide_eq_false (by omega), cmpI_eq g⟩)
    · exact Or.inr (Or.inr (Or.inl ⟨decide_eq_false (by omega), decide_eq_false (by omega), decide_eq_true g, cmpI_gt g⟩))
set_option maxHeartbeats 400000 in
theorem orderDoubles_c (u v : Int) (u0 : 0 ≤ u) (u1 : u < 18446744073709551616) (v0 : 0 ≤ v) (v1 : v < 18446744073709551616) (w : World) :
    Calls Try.prog 82 #[.int .u64 u, .int .u64 v] w fun e w' => e = .returned (.int .i64 (ordD u v)) ∧ w' = w := by
  have c1 := softLess_c u v
  have c2 := softEqual_c u v
  have c3 := softLess_c v u
  rcases ordD_cases u v u0 u1 v0 v1 with ⟨h1, h4⟩ | ⟨h1, h2, h3, h4⟩ | ⟨h1, h2, h3, h4⟩ | ⟨h1, h2, h3, h4⟩
  all_goals
    rw [h4]
    (try rw [h1] at c1)
    (try rw [h2] at c2)
    (try rw [h3] at c3)
    clear h4
    go_enter Try.func82, Try.ntmps82
    go_wp2_with (first | (go_at_call 93; with_reducible refine (c1 _).mono ?_; rintro e w' ⟨rfl, rfl⟩) | (go_at_call 94; with_reducible refine (c2 _).mono ?_; rintro e w' ⟨rfl, rfl⟩) | (go_at_call 93; with_reducible refine (c3 _).mono ?_; rintro e w' ⟨rfl, rfl⟩))
    go_ret
    exact ⟨rfl, rfl⟩

/-! ### a whole number beside a double -/
theorem key_zero : keyI (fromI 0) = 0 := by rw [(fromI_key 0 (by decide)).2, Int.zero_mul]
/-- an infinity's number is beyond all others -/
theorem inf_key (u : Int) (u0 : 0 ≤ u) (u1 : u < 18446744073709551616) (nu : nanB u = false) (hf : fitsB u = false) : 9223372036854775808 * (one1 : Int) ≤ keyI u ∨ keyI u < -9223372036854775808 * one1 := by
  rw [fits_key u u0 u1 nu] at hf
  simp only [decide_eq_false_iff_not] at hf
  omega
theorem fits_nan (u : Int) (u0 : 0 ≤ u) (hn : nanB u = true) : fitsB u = false := by
  unfold fitsB
  have h1 := order_nan u 14114281232179134464 u0 (by decide) (Or.inl hn)
  rw [show (14114281232179134464 : Int).toNat = 14114281232179134464 from rfl] at h1
  rw [h1]; rfl
theorem fits_fin (u : Int) (u0 : 0 ≤ u) (u1 : u < 18446744073709551616) (hf : fitsB u = true) : nanB u = false ∧ finB u = true ∧ -9223372036854775808 * (one1 : Int) ≤ keyI u ∧ keyI u < 9223372036854775808 * one1 := by
  have nu : nanB u = false := by
    cases g : nanB u
    · rfl
    · rw [fits_nan u u0 g] at hf; cases hf
  have hk := hf
  rw [fits_key u u0 u1 nu, decide_eq_true_eq] at hk
  refine ⟨nu, ?_, hk⟩
  cases g : finB u
  · exfalso
    have hm : u % 9223372036854775808 = 9218868437227405312 := by
      simp only [finB, decide_eq_false_iff_not] at g
      simp only [nanB, decide_eq_false_iff_not] at nu
      omega
    have : u = 9218868437227405312 ∨ u = 18442240474082181120 := by omega
    rcases this with rfl | rfl <;> exact absurd hf (by decide +kernel)
  · rfl
/-- where the whole part lies -/
theorem part_order (i t k : Int) (h : (0 ≤ k ∧ t * one1 ≤ k ∧ k < t * one1 + one1) ∨ (k ≤ 0 ∧ k ≤ t * one1 ∧ t * one1 - one1 < k)) (hne : i ≠ t) : cmpI i t = cmpI (i * one1) k := by
  have P := one1_int
  rcases Int.lt_trichotomy i t with g | g | g
  · rw [cmpI_lt g]
    have : (i + 1) * (one1 : Int) ≤ t * one1 := Int.mul_le_mul_of_nonneg_right (by omega) (by omega)
    rw [Int.add_mul] at this
    rw [cmpI_lt (by omega)]
  · exact absurd g hne
  · rw [cmpI_gt g]
    have : (t + 1) * (one1 : Int) ≤ i * one1 := Int.mul_le_mul_of_nonneg_right (by omega) (by omega)
    rw [Int.add_mul] at this
    rw [cmpI_gt (by omega)]
/-- a double's whole part is a double -/
theorem part_from (u : Int) (u0 : 0 ≤ u) (u1 : u < 18446744073709551616) (hf : finB u = true) : keyI (fromI (truncI u)) = truncI u * one1 := by
  obtain ⟨s, m, p, e⟩ := fin_read u hf
  obtain ⟨q1, q2, q3, q4, q5⟩ := read_number (by omega) e
  by_cases hp : p ≤ 0
  · refine (fromI_key _ ?_).2
    unfold truncI
    rw [e]
    simp only [signed_v, Nat.pow_zero, Nat.mul_one]
    have e0 : p.toNat = 0 := by omega
    rw [e0, Nat.pow_zero, Nat.mul_one]
    have := Nat.div_le_self m (2 ^ (-p).toNat)
    generalize m / 2 ^ (-p).toNat = T at *
    cases s <;> simp <;> omega
  · have e1 : (-p).toNat = 0 := by omega
    have ht : truncI u = if s then -((m * 2 ^ p.toNat : Nat) : Int) else ((m * 2 ^ p.toNat : Nat) : Int) := by
      unfold truncI
      rw [e]
      simp only [signed_v, Nat.pow_zero, Nat.mul_one, e1, Nat.div_one]
    have hm : 4503599627370496 ≤ m := by omega
    have hV : 0 < m * 2 ^ p.toNat := Nat.mul_pos (by omega) (Nat.two_pow_pos _)
    have e3 : Ieee.double.nearest s (m * 2 ^ p.toNat) 0 = u.toNat := by
      have e3 : Ieee.double.nearest s (m * 2 ^ p.toNat) 0 = Ieee.double.nearest s m p := nearest_same Ieee.double s _ m 0 p 0 (by omega) (by omega) (by simp)
      rw [e3, write_read (by omega) e]
    have ef : fromI (truncI u) = (Ieee.double.nearest (decide (truncI u < 0)) (truncI u).natAbs 0 : Nat) := rfl
    have ed : decide (truncI u < 0) = s ∧ (truncI u).natAbs = m * 2 ^ p.toNat := by
      rw [ht]
      generalize m * 2 ^ p.toNat = V at *
      cases s <;> simp <;> omega
    have eu : fromI (truncI u) = u := by rw [ef, ed.1, ed.2, e3]; omega
    rw [eu, ht]
    have ek : m * 2 ^ (p + 1074).toNat = m * 2 ^ p.toNat * one1 := by
      rw [Nat.mul_assoc, ← pow_one1 (k := (p + 1074).toNat - p.toNat) (by omega), ← Nat.pow_add]
      congr 2; omega
    unfold keyI
    rw [e]
    simp only [key, signed_v]
    rw [ek]
    generalize m * 2 ^ p.toNat = V at *
    cases s
    · simp only [Bool.false_eq_true, if_false, Int.natCast_mul]
    · simp only [if_true, Int.natCast_mul, Int.neg_mul]
theorem bne_false {x y : Int} (h : x = y) : (x != y) = false := by simp [h]
set_option maxHeartbeats 400000 in
theorem orderMixed_out (i u o : Int) (c1 : ∀ w, Calls Try.prog 92 #[.int .u64 u] w fun e w' => e = .returned (.tuple #[.int .i64 0, .int .i64 13]) ∧ w' = w) (z : Int) (c2 : ∀ w, Calls Try.prog 72 #[.int .i64 0] w fun e w' => e = .returned (.int .u64 z) ∧ w' = w)
    (c3 : ∀ w, Calls Try.prog 82 #[.int .u64 z, .int .u64 u] w fun e w' => e = .returned (.int .i64 o) ∧ w' = w) (w : World) :
    Calls Try.prog 80 #[.int .i64 i, .int .u64 u] w fun e w' => e = .returned (.int .i64 o) ∧ w' = w := by
  go_enter Try.func80, Try.ntmps80
  go_wp2_with (first | (go_at_call 92; with_reducible refine (c1 _).mono ?_; rintro e w' ⟨rfl, rfl⟩) | (go_at_call 72; with_reducible refine (c2 _).mono ?_; rintro e w' ⟨rfl, rfl⟩) | (go_at_call 82; with_reducible refine (c3 _).mono ?_; rintro e w' ⟨rfl, rfl⟩))
  go_ret
  exact ⟨rfl, rfl⟩
set_option maxHeartbeats 400000 in
theorem orderMixed_other (i u t : Int) (hne : (i != t) = true) (c1 : ∀ w, Calls Try.prog 92 #[.int .u64 u] w fun e w' => e = .returned (.tuple #[.int .i64 t, .int .i64 0]) ∧ w' = w) (w : World) :
    Calls Try.prog 80 #[.int .i64 i, .int .u64 u] w fun e w' => e = .returned (.int .i64 (cmpI i t)) ∧ w' = w := by
  go_enter Try.func80, Try.ntmps80
  go_wp2_with (first | (go_at_call 92; with_reducible refine (c1 _).mono ?_; rintro e w' ⟨rfl, rfl⟩) | (go_at_call 79; refine (compare_c _ _ _).mono ?_; rintro e w' ⟨rfl, rfl⟩))
  go_ret
  exact ⟨rfl, rfl⟩
set_option maxHeartbeats 400000 in
theorem orderMixed_same (i u o : Int) (c1 : ∀ w, Calls Try.prog 92 #[.int .u64 u] w fun e w' => e = .returned (.tuple #[.int .i64 i, .int .i64 0]) ∧ w' = w) (z : Int) (c2 : ∀ w, Calls Try.prog 72 #[.int .i64 i] w fun e w' => e = .returned (.int .u64 z) ∧ w' = w)
    (c3 : ∀ w, Calls Try.prog 82 #[.int .u64 z, .int .u64 u] w fun e w' => e = .returned (.int .i64 o) ∧ w' = w) (w : World) :
    Calls Try.prog 80 #[.int .i64 i, .int .u64 u] w fun e w' => e = .returned (.int .i64 o) ∧ w' = w := by
  go_enter Try.func80, Try.ntmps80
  go_wp2_with (first | (go_at_call 92; with_reducible refine (c1 _).mono ?_; rintro e w' ⟨rfl, rfl⟩) | (go_at_call 72; with_reducible refine (c2 _).mono ?_; rintro e w' ⟨rfl, rfl⟩) | (go_at_call 82; with_reducible refine (c3 _).mono ?_; rintro e w' ⟨rfl, rfl⟩))
  go_ret
  exact ⟨rfl, rfl⟩
theorem orderMixed_c (i u : Int) (i0 : -9223372036854775808 ≤ i) (i1 : i < 9223372036854775808) (u0 : 0 ≤ u) (u1 : u < 18446744073709551616) (w : World) :
    Calls Try.prog 80 #[.int .i64 i, .int .u64 u] w fun e w' => e = .returned (.int .i64 (ordM i u)) ∧ w' = w := by
  have P := one1_int
  cases hf : fitsB u with
  | false =>
    have z := fromI_range 0
    have e : ordD (fromI 0) u = ordM i u := by
      unfold ordD ordM
      rw [fromI_nan 0]
      cases nu : nanB u with
      | true => simp
      | false =>
        simp only [Bool.false_eq_true, or_false, if_false]
        rw [key_zero]
        rcases inf_key u u0 u1 nu hf with h | h
        · have : i * (one1 : Int) < 9223372036854775808 * one1 := Int.mul_lt_mul_of_pos_right i1 P
          rw [cmpI_lt (by omega), cmpI_lt (by omega)]
        · have : -9223372036854775808 * (one1 : Int) ≤ i * one1 := Int.mul_le_mul_of_nonneg_right i0 (by omega)
          rw [cmpI_gt (by omega), cmpI_gt (by omega)]
    rw [← e]
    exact orderMixed_out i u _ (softTrunc_out u hf) _ (softFromInt_c 0) (orderDoubles_c _ u z.1 z.2 u0 u1) w
  | true =>
    obtain ⟨nu, fu, k1, k2⟩ := fits_fin u u0 u1 hf
    have tv := trunc_val u u1 fu k1 k2
    obtain ⟨p1, p2⟩ := trunc_key u u1 fu
    have hp : (0 ≤ keyI u ∧ truncI u * one1 ≤ keyI u ∧ keyI u < truncI u * one1 + one1) ∨ (keyI u ≤ 0 ∧ keyI u ≤ truncI u * one1 ∧ truncI u * one1 - one1 < keyI u) := by
      by_cases h : 0 ≤ keyI u
      · exact Or.inl ⟨h, p1 h⟩
      · exact Or.inr ⟨by omega, p2 (by omega)⟩
    by_cases hne : i = truncI u
    · subst hne
      have e : ordD (fromI (truncI u)) u = ordM (truncI u) u := by
        unfold ordD ordM
        rw [fromI_nan, nu, part_from u u0 u1 fu]
        simp
      rw [← e]
      have z := fromI_range (truncI u)
      exact orderMixed_same _ u _ (softTrunc_in u _ tv hf) _ (softFromInt_c _) (orderDoubles_c _ u z.1 z.2 u0 u1) w
    · have e : cmpI i (truncI u) = ordM i u := by
        unfold ordM
        rw [nu, part_order i _ _ hp hne]
        simp
      rw [← e]
      exact orderMixed_other i u _ (by simpa using hne) (softTrunc_in u _ tv hf) w
theorem turn_neg (o : Int) (h : o = -1 ∨ o = 0 ∨ o = 1) : IntKind.i64.wrap (-o) = -o := by rcases h with rfl | rfl | rfl <;> decide
set_option maxHeartbeats 400000 in
theorem turned_c (o : Int) (h : o = -1 ∨ o = 0 ∨ o = 1 ∨ o = 2) (w : World) :
    Calls Try.prog 81 #[.int .i64 o] w fun e w' => e = .returned (.int .i64 (turnI o)) ∧ w' = w := by
  rcases h with rfl | rfl | rfl | rfl
  all_goals
    go_enter Try.func81, Try.ntmps81
    go_wp2
    go_ret
    exact ⟨rfl, rfl⟩
theorem cmpI_three (x y : Int) : cmpI x y = -1 ∨ cmpI x y = 0 ∨ cmpI x y = 1 := by unfold cmpI; split; · simp
                                                                                   · split <;> simp
theorem ordM_four (i u : Int) : ordM i u = -1 ∨ ordM i u = 0 ∨ ordM i u = 1 ∨ ordM i u = 2 := by
  unfold ordM
  split
  · simp
  · rcases cmpI_three (i * one1) (keyI u) with h | h | h <;> simp [h]
set_option maxHeartbeats 1000000 in
theorem order_core (a b : Bool) (i u j v o t : Int) (c1 : ∀ w, Calls Try.prog 80 #[.int .i64 i, .int .u64 v] w fun e w' => e = .returned (.int .i64 (ordM i v)) ∧ w' = w)
    (c2 : ∀ w, Calls Try.prog 80 #[.int .i64 j, .int .u64 u] w fun e w' => e = .returned (.int .i64 o) ∧ w' = w) (c3 : ∀ w, Calls Try.prog 81 #[.int .i64 o] w fun e w' => e = .returned (.int .i64 t) ∧ w' = w)
    (c4 : ∀ w, Calls Try.prog 82 #[.int .u64 u, .int .u64 v] w fun e w' => e = .returned (.int .i64 (ordD u v)) ∧ w' = w) (w : World) :
    Calls Try.prog 67 #[.agg #[.bool a, .int .i64 i, .int .u64 u], .agg #[.bool b, .int .i64 j, .int .u64 v]] w fun e w' => e = .returned (.int .i64 (if a = true then (if b = true then cmpI i j else ordM i v) else if b = true then t else ordD u v)) ∧ Gr w w' := by
  have k1 : kindI true true = 0 := rfl
  have k2 : kindI true false = 1 := rfl
  have k3 : kindI false true = 2 := rfl
  have k4 : kindI false false = 3 := rfl
  cases a <;> cases b
  all_goals
    go_enter Try.func67, Try.ntmps67
    go_wp2_with (first | (go_at_call 36; refine (kinds_c _ _ _ _ _ _ _).mono ?_; rintro e w' ⟨rfl, hg⟩; obtain ⟨fA, fB, hG⟩ := hg.two (Nat.zero_lt_succ _) (Nat.zero_lt_succ _); clear hg) | (go_at_call 79; refine (compare_c _ _ _).mono ?_; rintro e w' ⟨rfl, rfl⟩) | (go_at_call 80; with_reducible refine (c1 _).mono ?_; rintro e w' ⟨rfl, rfl⟩) | (go_at_call 80; with_reducible refine (c2 _).mono ?_; rintro e w' ⟨rfl, rfl⟩) | (go_at_call 81; with_reducible refine (c3 _).mono ?_; rintro e w' ⟨rfl, rfl⟩) | (go_at_call 82; with_reducible refine (c4 _).mono ?_; rintro e w' ⟨rfl, rfl⟩))
    go_ret
    exact ⟨rfl, hG⟩
/-- what a number must be: a whole number of 64 bits, a pattern of 64 bits -/
def inN (i u : Int) : Prop := (-9223372036854775808 ≤ i ∧ i < 9223372036854775808) ∧ 0 ≤ u ∧ u < 18446744073709551616
theorem order_c (a b : Bool) (i u j v : Int) (h : inN i u) (k : inN j v) (w : World) :
    Calls Try.prog 67 #[.agg #[.bool a, .int .i64 i, .int .u64 u], .agg #[.bool b, .int .i64 j, .int .u64 v]] w fun e w' => e = .returned (.int .i64 (ordI a i u b j v)) ∧ Gr w w' :=
  order_core a b i u j v _ _ (orderMixed_c i v h.1.1 h.1.2 k.2.1 k.2.2) (orderMixed_c j u k.1.1 k.1.2 h.2.1 h.2.2) (turned_c _ (ordM_four j u)) (orderDoubles_c u v h.2.1 h.2.2 k.2.1 k.2.2) w
/-- what Less, LessEq, Equal answer -/
def lessN (a : Bool) (i u : Int) (b : Bool) (j v : Int) : Bool := ordI a i u b j v == -1
def equalN (a : Bool) (i u : Int) (b : Bool) (j v : Int) : Bool := ordI a i u b j v == 0
def lessEqN (a : Bool) (i u : Int) (b : Bool) (j v : Int) : Bool := ordI a i u b j v == -1 || ordI a i u b j v == 0
set_option maxHeartbeats 400000 in
theorem numLess_c (a b : Bool) (i u j v : Int) (h : inN i u) (k : inN j v) (w : World) :
    Calls Try.prog 28 #[.agg #[.bool a, .int .i64 i, .int .u64 u], .agg #[.bool b, .int .i64 j, .int .u64 v]] w fun e w' => e = .returned (.bool (lessN a i u b j v)) ∧ Gr w w' := by
  go_enter Try.func28, Try.ntmps28
  go_wp2_with (go_at_call 67; refine (order_c _ _ _ _ _ _ h k _).mono ?_; rintro e w' ⟨rfl, hg⟩; obtain ⟨fA, fB, hG⟩ := hg.two (Nat.zero_lt_succ _) (Nat.zero_lt_succ _); clear hg)
  go_ret
  exact ⟨rfl, hG⟩
set_option maxHeartbeats 400000 in
theorem numEqual_c (a b : Bool) (i u j v : Int) (h : inN i u) (k : inN j v) (w : World) :
    Calls Try.prog 32 #[.agg #[.bool a, .int .i64 i, .int .u64 u], .agg #[.bool b, .int .i64 j, .int .u64 v]] w fun e w' => e = .returned (.bool (equalN a i u b j v)) ∧ Gr w w' := by
  go_enter Try.func32, Try.ntmps32
  go_wp2_with (go_at_call 67; refine (order_c _ _ _ _ _ _ h k _).mono ?_; rintro e w' ⟨rfl, hg⟩; obtain ⟨fA, fB, hG⟩ := hg.two (Nat.zero_lt_succ _) (Nat.zero_lt_succ _); clear hg)
  go_ret
  exact ⟨rfl, hG⟩
set_option maxHeartbeats 400000 in
theorem numLessEq_c (a b : Bool) (i u j v : Int) (h : inN i u) (k : inN j v) (w : World) :
    Calls Try.prog 30 #[.agg #[.bool a, .int .i64 i, .int .u64 u], .agg #[.bool b, .int .i64 j, .int .u64 v]] w fun e w' => e = .returned (.bool (lessEqN a i u b j v)) ∧ Gr w w' := by
  cases hl : (ordI a i u b j v == -1) with
  | true =>
    go_enter Try.func30, Try.ntmps30
    go_wp2_with (go_at_call 67; refine (order_c _ _ _ _ _ _ h k _).mono ?_; rintro e w' ⟨rfl, hg⟩; obtain ⟨fA, fB, hG⟩ := hg.two (Nat.zero_lt_succ _) (Nat.zero_lt_succ _); clear hg)
    go_ret
    exact ⟨ret_bool (by simp [lessEqN, hl]), hG⟩
  | false =>
    go_enter Try.func30, Try.ntmps30
    go_wp2_with (go_at_call 67; refine (order_c _ _ _ _ _ _ h k _).mono ?_; rintro e w' ⟨rfl, hg⟩; obtain ⟨fA, fB, hG⟩ := hg.two (Nat.zero_lt_succ _) (Nat.zero_lt_succ _); clear hg)
    go_ret
    exact ⟨ret_bool (by simp [lessEqN, hl]), hG⟩
end Go.Proofs.Ytpbcplgpbafjpaa.W
