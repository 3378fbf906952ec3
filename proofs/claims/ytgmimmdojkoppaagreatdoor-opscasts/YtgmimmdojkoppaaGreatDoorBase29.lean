import Derived.Test.YtgmimmdojkoppaaGreatDoorBase28
import Derived.Test.YtgmimmdojkoppaaGreatDoorBase26
import Derived.Test.YtgmimmdojkoppaaGreatDoorBase25
import Derived.Test.YtgmimmdojkoppaaGreatDoorBase23
import Derived.Test.YtgmimmdojkoppaaGreatDoorBase27
/- Plain facts on what package soft answers, by the exact numbers: sums, products and quotients of whole numbers; by one, by itself. -/
namespace Go.Proofs.YtgmimmdojkoppaaGreatDoor.W.Nu
open Ieee

theorem one1_int : (0 : Int) < one1 := by have := one1_pos; omega
/-- a number that is whole, cut to its whole part -/
theorem trunc_whole (x k : Int) (r1 : 0 ≤ x) (r2 : x < 18446744073709551616) (hf : finB x = true) (hk : keyI x = k * one1) (h1 : -9223372036854775808 ≤ k) (h2 : k < 9223372036854775808) :
    floatToIntVal .f64 x.toNat .i64 = some k ∧ fitsB x = true := by
  have p := one1_int
  have b1 : -9223372036854775808 * (one1 : Int) ≤ keyI x := by rw [hk]; exact Int.mul_le_mul_of_nonneg_right h1 (by omega)
  have b2 : keyI x < 9223372036854775808 * one1 := by rw [hk]; exact Int.mul_lt_mul_of_pos_right (by omega) p
  have hv := trunc_val x r2 hf b1 b2
  have ht : truncI x = k := by
    obtain ⟨t1, t2⟩ := trunc_key x r2 hf
    rw [hk] at t1 t2
    by_cases g : 0 ≤ k
    · obtain ⟨u1, u2⟩ := t1 (Int.mul_nonneg g (by omega))
      exact quo_unique _ _ _ u1 u2 (Int.le_refl _) (by omega)
    · obtain ⟨u1, u2⟩ := t2 (Int.mul_nonpos_of_nonpos_of_nonneg (by omega) (by omega))
      exact (quo_unique k _ _ u1 (by omega) (Int.le_refl _) (by omega)).symm
  rw [ht] at hv
  refine ⟨hv, ?_⟩
  rw [fits_key x r1 r2 (fin_nan x hf)]
  simp only [decide_eq_true_eq]
  exact ⟨b1, b2⟩

theorem key_opposite (d : Datum) : key d.opposite = -key d := by
  cases d with
  | number s m p => simp only [Datum.opposite, key, signed_v]; cases s <;> simp
  | infinity s => simp only [Datum.opposite, key]; cases s <;> simp
  | nan s t => rfl
theorem keyI_neg (b : Int) (h0 : 0 ≤ b) (h1 : b < 18446744073709551616) (hn : nanB b = false) : keyI (negI b) = -keyI b := by
  unfold keyI; rw [read_neg b h0 h1 hn, key_opposite]
theorem finB_neg (b : Int) (hf : finB b = true) : finB (negI b) = true := by
  rw [negI_plain b (fin_nan b hf)]
  simp only [finB, decide_eq_true_eq] at *
  split <;> omega

end Go.Proofs.YtgmimmdojkoppaaGreatDoor.W.Nu
/- Plain facts on what package soft answers, by the exact numbers: quotients of whole numbers; by one, by itself, to nought. -/
namespace Go.Proofs.YtgmimmdojkoppaaGreatDoor.W.Nu
open Ieee

theorem quo_nearest (a b : Int) {s t : Bool} {m n : Nat} {p q : Int} (ea : Ieee.double.read a.toNat = .number s m p) (eb : Ieee.double.read b.toNat = .number t n q) (hn : n ≠ 0) :
    opI .quo a b = (Ieee.double.nearest (s ^^ t) (2 * (m * 2 ^ (54 + n.log2 - m.log2) / n) + (m * 2 ^ (54 + n.log2 - m.log2) % n != 0).toNat) (p - q - (54 + n.log2 - m.log2 : Nat) - 1) : Nat) := by
  unfold opI
  have : floatBits .quo .f64 a.toNat b.toNat = ((Ieee.double.read a.toNat).quotient 54 (Ieee.double.read b.toNat)).map Ieee.double.write := rfl
  rw [this, ea, eb]
  simp only [Datum.quotient, if_neg hn, Nat.shiftLeft_eq]
  rfl
/-! ### by one, by itself, to nought -/
theorem read_one : Ieee.double.read (4607182418800017408 : Int).toNat = .number false 4503599627370496 (-52) := by decide +kernel
/-- a pattern that is no NaN is a number's or an infinity's -/
theorem plain_read (a : Int) (h0 : 0 ≤ a) (hn : nanB a = false) : (∃ s m p, Ieee.double.read a.toNat = .number s m p) ∨ ∃ s, Ieee.double.read a.toNat = .infinity s := by
  cases e : Ieee.double.read a.toNat with
  | number s m p => exact Or.inl ⟨s, m, p, rfl⟩
  | infinity s => exact Or.inr ⟨s, rfl⟩
  | nan s t => have := nan_of a h0; rw [e, hn] at this; cases this
theorem mul_one (a : Int) (h0 : 0 ≤ a) (h1 : a < 18446744073709551616) (hn : nanB a = false) : opI .mul a 4607182418800017408 = a := by
  have x : floatBits .mul .f64 a.toNat (4607182418800017408 : Int).toNat = ((Ieee.double.read a.toNat).product (Ieee.double.read (4607182418800017408 : Int).toNat)).map Ieee.double.write := rfl
  unfold opI
  rw [x, read_one]
  rcases plain_read a h0 hn with ⟨s, m, p, e⟩ | ⟨s, e⟩
  · rw [e]
    show ((Ieee.double.nearest (s ^^ false) (m * 4503599627370496) (p + -52) : Nat) : Int) = a
    have := nearest_shift Ieee.double s m 52 p
    rw [show (4503599627370496 : Nat) = 2 ^ 52 from by decide, Bool.xor_false, show p + -52 = p - (52 : Nat) from by omega, this, write_read (by omega) e]
    omega
  · rw [e]
    show ((Ieee.double.write (.infinity (s ^^ false)) : Nat) : Int) = a
    rw [Bool.xor_false, write_inf (by omega) e]
    omega
theorem div_one (a : Int) (h0 : 0 ≤ a) (h1 : a < 18446744073709551616) (hn : nanB a = false) : opI .quo a 4607182418800017408 = a := by
  rcases plain_read a h0 hn with ⟨s, m, p, e⟩ | ⟨s, e⟩
  · rw [quo_nearest a _ e read_one (by decide)]
    obtain ⟨m1, hp, -, -, -⟩ := read_number (by omega) e
    have lm : m.log2 ≤ 52 := by
      by_cases hm : m = 0
      · subst hm; decide
      · have : m.log2 < 53 := (Nat.log2_lt hm).2 (by omega)
        omega
    rw [show (4503599627370496 : Nat).log2 = 52 from by decide, show 54 + 52 - m.log2 = (106 - m.log2) from rfl]
    generalize hM : 106 - m.log2 = M
    have e1 : m * 2 ^ M = m * 2 ^ (M - 52) * 4503599627370496 := by
      rw [Nat.mul_assoc, show (4503599627370496 : Nat) = 2 ^ 52 from by decide, ← Nat.pow_add]
      exact congrArg (m * 2 ^ ·) (by omega)
    rw [e1, Nat.mul_div_cancel _ (by decide), Nat.mul_mod_left]
    simp only [bne_self_eq_false, Bool.toNat_false, Nat.add_zero, Bool.xor_false]
    have e2 : 2 * (m * 2 ^ (M - 52)) = m * 2 ^ (M - 51) := by
      rw [show M - 51 = M - 52 + 1 from by omega, Nat.pow_succ, Nat.mul_left_comm, Nat.mul_comm 2]
    have := nearest_shift Ieee.double s m (M - 51) p
    rw [e2, show p - -52 - (M : Nat) - 1 = p - (M - 51 : Nat) from by omega, this, write_read (by omega) e]
    omega
  · have x : floatBits .quo .f64 a.toNat (4607182418800017408 : Int).toNat = ((Ieee.double.read a.toNat).quotient 54 (Ieee.double.read (4607182418800017408 : Int).toNat)).map Ieee.double.write := rfl
    unfold opI
    rw [x, read_one, e]
    show ((Ieee.double.write (.infinity (s ^^ false)) : Nat) : Int) = a
    rw [Bool.xor_false, write_inf (by omega) e]
    omega
end Go.Proofs.YtgmimmdojkoppaaGreatDoor.W.Nu
/- Contracts of package num: the order of two numbers, by their exact numbers. -/
namespace Go.Proofs.YtgmimmdojkoppaaGreatDoor.W.Nu
open Go.ChangeShapes Go.WideShapes Go.RowKit

/-- -1, 0, 1 -/
def cmpI (x y : Int) : Int := if x < y then -1 else if y < x then 1 else 0
theorem cmpI_lt {x y : Int} (h : x < y) : cmpI x y = -1 := if_pos h
theorem cmpI_gt {x y : Int} (h : y < x) : cmpI x y = 1 := by unfold cmpI; rw [if_neg (by omega), if_pos h]
theorem cmpI_eq {x y : Int} (h : x = y) : cmpI x y = 0 := by unfold cmpI; rw [if_neg (by omega), if_neg (by omega)]
/-- the order of two doubles; of a whole number and a double; 2: one is a NaN -/
def ordD (u v : Int) : Int := if nanB u = true ∨ nanB v = true then 2 else cmpI (keyI u) (keyI v)
def ordM (i u : Int) : Int := if nanB u = true then 2 else cmpI (i * one1) (keyI u)
def turnI (o : Int) : Int := if o = 2 then 2 else -o
def ordI (a : Bool) (i u : Int) (b : Bool) (j v : Int) : Int := if a = true then (if b = true then cmpI i j else ordM i v) else if b = true then turnI (ordM j u) else ordD u v
set_option maxHeartbeats 400000 in
theorem cmpNaN_c (x : Int) (w : World) :
    Calls Tryz.prog 260 #[.int .i64 x] w fun e w' => e = .returned (.bool false) ∧ w' = w := by
  have hx : (x != x) = false := by simp
  go_enter Tryz.func260, Tryz.ntmps260
  go_wp2
  go_ret
  exact ⟨rfl, rfl⟩
set_option maxHeartbeats 400000 in
theorem compare_c (x y : Int) (w : World) :
    Calls Tryz.prog 209 #[.int .i64 x, .int .i64 y] w fun e w' => e = .returned (.int .i64 (cmpI x y)) ∧ w' = w := by
  have hC : (x < y ∧ cmpI x y = -1) ∨ (¬ x < y ∧ y < x ∧ cmpI x y = 1) ∨ (¬ x < y ∧ ¬ y < x ∧ cmpI x y = 0) := by
    unfold cmpI
    by_cases h1 : x < y
    · exact Or.inl ⟨h1, if_pos h1⟩
    · by_cases h2 : y < x
      · exact Or.inr (Or.inl ⟨h1, h2, by rw [if_neg h1, if_pos h2]⟩)
      · exact Or.inr (Or.inr ⟨h1, h2, by rw [if_neg h1, if_neg h2]⟩)
  rcases hC with ⟨h1, h3⟩ | ⟨h1, h2, h3⟩ | ⟨h1, h2, h3⟩
  all_goals
    rw [h3]
    clear h3
    go_enter Tryz.func209, Tryz.ntmps209
    go_wp2_with (go_at_call 260; refine (cmpNaN_c _ _).mono ?_; rintro e w' ⟨rfl, rfl⟩)
    go_ret
    exact ⟨rfl, rfl⟩
theorem ordD_cases (u v : Int) (u0 : 0 ≤ u) (u1 : u < 18446744073709551616) (v0 : 0 ≤ v) (v1 : v < 18446744073709551616) :
    (lessI u v = true ∧ ordD u v = -1) ∨ (lessI u v = false ∧ equalI u v = true ∧ lessI v u = false ∧ ordD u v = 0) ∨ (lessI u v = false ∧ equalI u v = false ∧ lessI v u = true ∧ ordD u v = 1) ∨ (lessI u v = false ∧ equalI u v = false ∧ lessI v u = false ∧ ordD u v = 2) := by
  unfold ordD
  by_cases h : nanB u = true ∨ nanB v = true
  · obtain ⟨n1, n2, n3⟩ := less_nan u v u0 v0 h
    obtain ⟨n4, n5, n6⟩ := less_nan v u v0 u0 h.symm
    exact Or.inr (Or.inr (Or.inr ⟨n1, n2, n4, if_pos h⟩))
  · have nu : nanB u = false := by cases g : nanB u; · rfl
                                   · exact absurd (Or.inl g) h
    have nv : nanB v = false := by cases g : nanB v; · rfl
                                   · exact absurd (Or.inr g) h
    rw [if_neg h, lessI_key u v u0 u1 v0 v1 nu nv, lessI_key v u v0 v1 u0 u1 nv nu, equalI_key u v u0 u1 v0 v1 nu nv]
    rcases Int.lt_trichotomy (keyI u) (keyI v) with g | g | g
    · exact Or.inl ⟨decide_eq_true g, cmpI_lt g⟩
    · exact Or.inr (Or.inl ⟨decide_eq_false (by omega), decide_eq_true g, decide_eq_false (by omega), cmpI_eq g⟩)
    · exact Or.inr (Or.inr (Or.inl ⟨decide_eq_false (by omega), decide_eq_false (by omega), decide_eq_true g, cmpI_gt g⟩))
set_option maxHeartbeats 400000 in
theorem orderDoubles_c (u v : Int) (u0 : 0 ≤ u) (u1 : u < 18446744073709551616) (v0 : 0 ≤ v) (v1 : v < 18446744073709551616) (w : World) :
    Calls Tryz.prog 212 #[.int .u64 u, .int .u64 v] w fun e w' => e = .returned (.int .i64 (ordD u v)) ∧ w' = w := by
  have c1 := softLess_c u v
  have c2 := softEqual_c u v
  have c3 := softLess_c v u
  rcases ordD_cases u v u0 u1 v0 v1 with ⟨h1, h4⟩ | ⟨h1, h2, h3, h4⟩ | ⟨h1, h2, h3, h4⟩ | ⟨h1, h2, h3, h4⟩
  all_goals
    rw [h4]
    (try rw [h1] at c1)
    (try rw [h2] at c2)
    (try rw [h3] at c3)
    clear h4
    go_enter Tryz.func212, Tryz.ntmps212
    go_wp2_with (first | (go_at_call 261; with_reducible refine (c1 _).mono ?_; rintro e w' ⟨rfl, rfl⟩) | (go_at_call 262; with_reducible refine (c2 _).mono ?_; rintro e w' ⟨rfl, rfl⟩) | (go_at_call 261; with_reducible refine (c3 _).mono ?_; rintro e w' ⟨rfl, rfl⟩))
    go_ret
    exact ⟨rfl, rfl⟩

/-! ### a whole number beside a double -/
theorem key_zero : keyI (fromI 0) = 0 := by rw [(fromI_key 0 (by decide)).2, Int.zero_mul]
/-- an infinity's number is beyond all others -/
theorem inf_key (u : Int) (u0 : 0 ≤ u) (u1 : u < 18446744073709551616) (nu : nanB u = false) (hf : fitsB u = false) : 9223372036854775808 * (one1 : Int) ≤ keyI u ∨ keyI u < -9223372036854775808 * one1 := by
  rw [fits_key u u0 u1 nu] at hf
  simp only [decide_eq_false_iff_not] at hf
  omega
theorem fits_nan (u : Int) (u0 : 0 ≤ u) (hn : nanB u = true) : fitsB u = false := by
  unfold fitsB
  have h1 := order_nan u 14114281232179134464 u0 (by decide) (Or.inl hn)
  rw [show (14114281232179134464 : Int).toNat = 14114281232179134464 from rfl] at h1
  rw [h1]; rfl
theorem fits_fin (u : Int) (u0 : 0 ≤ u) (u1 : u < 18446744073709551616) (hf : fitsB u = true) : nanB u = false ∧ finB u = true ∧ -9223372036854775808 * (one1 : Int) ≤ keyI u ∧ keyI u < 9223372036854775808 * one1 := by
  have nu : nanB u = false := by
    cases g : nanB u
    · rfl
    · rw [fits_nan u u0 g] at hf; cases hf
  have hk := hf
  rw [fits_key u u0 u1 nu, decide_eq_true_eq] at hk
  refine ⟨nu, ?_, hk⟩
  cases g : finB u
  · exfalso
    have hm : u % 9223372036854775808 = 9218868437227405312 := by
      simp only [finB, decide_eq_false_iff_not] at g
      simp only [nanB, decide_eq_false_iff_not] at nu
      omega
    have : u = 9218868437227405312 ∨ u = 18442240474082181120 := by omega
    rcases this with rfl | rfl <;> exact absurd hf (by decide +kernel)
  · rfl
/-- where the whole part lies -/
theorem part_order (i t k : Int) (h : (0 ≤ k ∧ t * one1 ≤ k ∧ k < t * one1 + one1) ∨ (k ≤ 0 ∧ k ≤ t * one1 ∧ t * one1 - one1 < k)) (hne : i ≠ t) : cmpI i t = cmpI (i * one1) k := by
  have P := one1_int
  rcases Int.lt_trichotomy i t with g | g | g
  · rw [cmpI_lt g]
    have : (i + 1) * (one1 : Int) ≤ t * one1 := Int.mul_le_mul_of_nonneg_right (by omega) (by omega)
    rw [Int.add_mul] at this
    rw [cmpI_lt (by omega)]
  · exact absurd g hne
  · rw [cmpI_gt g]
    have : (t + 1) * (one1 : Int) ≤ i * one1 := Int.mul_le_mul_of_nonneg_right (by omega) (by omega)
    rw [Int.add_mul] at this
    rw [cmpI_gt (by omega)]
/-- a double's whole part is a double -/
theorem part_from (u : Int) (u0 : 0 ≤ u) (u1 : u < 18446744073709551616) (hf : finB u = true) : keyI (fromI (truncI u)) = truncI u * one1 := by
  obtain ⟨s, m, p, e⟩ := fin_read u hf
  obtain ⟨q1, q2, q3, q4, q5⟩ := read_number (by omega) e
  by_cases hp : p ≤ 0
  · refine (fromI_key _ ?_).2
    unfold truncI
    rw [e]
    simp only [signed_v, Nat.pow_zero, Nat.mul_one]
    have e0 : p.toNat = 0 := by omega
    rw [e0, Nat.pow_zero, Nat.mul_one]
    have := Nat.div_le_self m (2 ^ (-p).toNat)
    generalize m / 2 ^ (-p).toNat = T at *
    cases s <;> simp <;> omega
  · have e1 : (-p).toNat = 0 := by omega
    have ht : truncI u = if s then -((m * 2 ^ p.toNat : Nat) : Int) else ((m * 2 ^ p.toNat : Nat) : Int) := by
      unfold truncI
      rw [e]
      simp only [signed_v, Nat.pow_zero, Nat.mul_one, e1, Nat.div_one]
    have hm : 4503599627370496 ≤ m := by omega
    have hV : 0 < m * 2 ^ p.toNat := Nat.mul_pos (by omega) (Nat.two_pow_pos _)
    have e3 : Ieee.double.nearest s (m * 2 ^ p.toNat) 0 = u.toNat := by
      have e3 : Ieee.double.nearest s (m * 2 ^ p.toNat) 0 = Ieee.double.nearest s m p := nearest_same Ieee.double s _ m 0 p 0 (by omega) (by omega) (by simp)
      rw [e3, write_read (by omega) e]
    have ef : fromI (truncI u) = (Ieee.double.nearest (decide (truncI u < 0)) (truncI u).natAbs 0 : Nat) := rfl
    have ed : decide (truncI u < 0) = s ∧ (truncI u).natAbs = m * 2 ^ p.toNat := by
      rw [ht]
      generalize m * 2 ^ p.toNat = V at *
      cases s <;> simp <;> omega
    have eu : fromI (truncI u) = u := by rw [ef, ed.1, ed.2, e3]; omega
    rw [eu, ht]
    have ek : m * 2 ^ (p + 1074).toNat = m * 2 ^ p.toNat * one1 := by
      rw [Nat.mul_assoc, ← pow_one1 (k := (p + 1074).toNat - p.toNat) (by omega), ← Nat.pow_add]
      congr 2; omega
    unfold keyI
    rw [e]
    simp only [key, signed_v]
    rw [ek]
    generalize m * 2 ^ p.toNat = V at *
    cases s
    · simp only [Bool.false_eq_true, if_false, Int.natCast_mul]
    · simp only [if_true, Int.natCast_mul, Int.neg_mul]
set_option maxHeartbeats 400000 in
theorem orderMixed_out (i u o : Int) (c1 : ∀ w, Calls Tryz.prog 67 #[.int .u64 u] w fun e w' => e = .returned (.tuple #[.int .i64 0, .int .i64 13]) ∧ w' = w) (z : Int) (c2 : ∀ w, Calls Tryz.prog 69 #[.int .i64 0] w fun e w' => e = .returned (.int .u64 z) ∧ w' = w)
    (c3 : ∀ w, Calls Tryz.prog 212 #[.int .u64 z, .int .u64 u] w fun e w' => e = .returned (.int .i64 o) ∧ w' = w) (w : World) :
    Calls Tryz.prog 210 #[.int .i64 i, .int .u64 u] w fun e w' => e = .returned (.int .i64 o) ∧ w' = w := by
  go_enter Tryz.func210, Tryz.ntmps210
  go_wp2_with (first | (go_at_call 67; with_reducible refine (c1 _).mono ?_; rintro e w' ⟨rfl, rfl⟩) | (go_at_call 69; with_reducible refine (c2 _).mono ?_; rintro e w' ⟨rfl, rfl⟩) | (go_at_call 212; with_reducible refine (c3 _).mono ?_; rintro e w' ⟨rfl, rfl⟩))
  go_ret
  exact ⟨rfl, rfl⟩
set_option maxHeartbeats 400000 in
theorem orderMixed_other (i u t : Int) (hne : (i != t) = true) (c1 : ∀ w, Calls Tryz.prog 67 #[.int .u64 u] w fun e w' => e = .returned (.tuple #[.int .i64 t, .int .i64 0]) ∧ w' = w) (w : World) :
    Calls Tryz.prog 210 #[.int .i64 i, .int .u64 u] w fun e w' => e = .returned (.int .i64 (cmpI i t)) ∧ w' = w := by
  go_enter Tryz.func210, Tryz.ntmps210
  go_wp2_with (first | (go_at_call 67; with_reducible refine (c1 _).mono ?_; rintro e w' ⟨rfl, rfl⟩) | (go_at_call 209; refine (compare_c _ _ _).mono ?_; rintro e w' ⟨rfl, rfl⟩))
  go_ret
  exact ⟨rfl, rfl⟩
set_option maxHeartbeats 400000 in
theorem orderMixed_same (i u o : Int) (c1 : ∀ w, Calls Tryz.prog 67 #[.int .u64 u] w fun e w' => e = .returned (.tuple #[.int .i64 i, .int .i64 0]) ∧ w' = w) (z : Int) (c2 : ∀ w, Calls Tryz.prog 69 #[.int .i64 i] w fun e w' => e = .returned (.int .u64 z) ∧ w' = w)
    (c3 : ∀ w, Calls Tryz.prog 212 #[.int .u64 z, .int .u64 u] w fun e w' => e = .returned (.int .i64 o) ∧ w' = w) (w : World) :
    Calls Tryz.prog 210 #[.int .i64 i, .int .u64 u] w fun e w' => e = .returned (.int .i64 o) ∧ w' = w := by
  go_enter Tryz.func210, Tryz.ntmps210
  go_wp2_with (first | (go_at_call 67; with_reducible refine (c1 _).mono ?_; rintro e w' ⟨rfl, rfl⟩) | (go_at_call 69; with_reducible refine (c2 _).mono ?_; rintro e w' ⟨rfl, rfl⟩) | (go_at_call 212; with_reducible refine (c3 _).mono ?_; rintro e w' ⟨rfl, rfl⟩))
  go_ret
  exact ⟨rfl, rfl⟩
theorem orderMixed_c (i u : Int) (i0 : -9223372036854775808 ≤ i) (i1 : i < 9223372036854775808) (u0 : 0 ≤ u) (u1 : u < 18446744073709551616) (w : World) :
    Calls Tryz.prog 210 #[.int .i64 i, .int .u64 u] w fun e w' => e = .returned (.int .i64 (ordM i u)) ∧ w' = w := by
  have P := one1_int
  cases hf : fitsB u with
  | false =>
    have z := fromI_range 0
    have e : ordD (fromI 0) u = ordM i u := by
      unfold ordD ordM
      rw [fromI_nan 0]
      cases nu : nanB u with
      | true => simp
      | false =>
        simp only [Bool.false_eq_true, or_false, if_false]
        rw [key_zero]
        rcases inf_key u u0 u1 nu hf with h | h
        · have : i * (one1 : Int) < 9223372036854775808 * one1 := Int.mul_lt_mul_of_pos_right i1 P
          rw [cmpI_lt (by omega), cmpI_lt (by omega)]
        · have : -9223372036854775808 * (one1 : Int) ≤ i * one1 := Int.mul_le_mul_of_nonneg_right i0 (by omega)
          rw [cmpI_gt (by omega), cmpI_gt (by omega)]
    rw [← e]
    exact orderMixed_out i u _ (softTrunc_out u hf) _ (softFromInt_c 0) (orderDoubles_c _ u z.1 z.2 u0 u1) w
  | true =>
    obtain ⟨nu, fu, k1, k2⟩ := fits_fin u u0 u1 hf
    have tv := trunc_val u u1 fu k1 k2
    obtain ⟨p1, p2⟩ := trunc_key u u1 fu
    have hp : (0 ≤ keyI u ∧ truncI u * one1 ≤ keyI u ∧ keyI u < truncI u * one1 + one1) ∨ (keyI u ≤ 0 ∧ keyI u ≤ truncI u * one1 ∧ truncI u * one1 - one1 < keyI u) := by
      by_cases h : 0 ≤ keyI u
      · exact Or.inl ⟨h, p1 h⟩
      · exact Or.inr ⟨by omega, p2 (by omega)⟩
    by_cases hne : i = truncI u
    · subst hne
      have e : ordD (fromI (truncI u)) u = ordM (truncI u) u := by
        unfold ordD ordM
        rw [fromI_nan, nu, part_from u u0 u1 fu]
        simp
      rw [← e]
      have z := fromI_range (truncI u)
      exact orderMixed_same _ u _ (softTrunc_in u _ tv hf) _ (softFromInt_c _) (orderDoubles_c _ u z.1 z.2 u0 u1) w
    · have e : cmpI i (truncI u) = ordM i u := by
        unfold ordM
        rw [nu, part_order i _ _ hp hne]
        simp
      rw [← e]
      exact orderMixed_other i u _ (by simpa using hne) (softTrunc_in u _ tv hf) w
set_option maxHeartbeats 400000 in
theorem turned_c (o : Int) (h : o = -1 ∨ o = 0 ∨ o = 1 ∨ o = 2) (w : World) :
    Calls Tryz.prog 211 #[.int .i64 o] w fun e w' => e = .returned (.int .i64 (turnI o)) ∧ w' = w := by
  rcases h with rfl | rfl | rfl | rfl
  all_goals
    go_enter Tryz.func211, Tryz.ntmps211
    go_wp2
    go_ret
    exact ⟨rfl, rfl⟩
theorem cmpI_three (x y : Int) : cmpI x y = -1 ∨ cmpI x y = 0 ∨ cmpI x y = 1 := by unfold cmpI; split; · simp
                                                                                   · split <;> simp
theorem ordM_four (i u : Int) : ordM i u = -1 ∨ ordM i u = 0 ∨ ordM i u = 1 ∨ ordM i u = 2 := by
  unfold ordM
  split
  · simp
  · rcases cmpI_three (i * one1) (keyI u) with h | h | h <;> simp [h]
set_option maxHeartbeats 1000000 in
theorem order_core (a b : Bool) (i u j v o t : Int) (c1 : ∀ w, Calls Tryz.prog 210 #[.int .i64 i, .int .u64 v] w fun e w' => e = .returned (.int .i64 (ordM i v)) ∧ w' = w)
    (c2 : ∀ w, Calls Tryz.prog 210 #[.int .i64 j, .int .u64 u] w fun e w' => e = .returned (.int .i64 o) ∧ w' = w) (c3 : ∀ w, Calls Tryz.prog 211 #[.int .i64 o] w fun e w' => e = .returned (.int .i64 t) ∧ w' = w)
    (c4 : ∀ w, Calls Tryz.prog 212 #[.int .u64 u, .int .u64 v] w fun e w' => e = .returned (.int .i64 (ordD u v)) ∧ w' = w) (w : World) :
    Calls Tryz.prog 167 #[.agg #[.bool a, .int .i64 i, .int .u64 u], .agg #[.bool b, .int .i64 j, .int .u64 v]] w fun e w' => e = .returned (.int .i64 (if a = true then (if b = true then cmpI i j else ordM i v) else if b = true then t else ordD u v)) ∧ Gr w w' := by
  have k1 : kindI true true = 0 := rfl
  have k2 : kindI true false = 1 := rfl
  have k3 : kindI false true = 2 := rfl
  have k4 : kindI false false = 3 := rfl
  cases a <;> cases b
  all_goals
    go_enter Tryz.func167, Tryz.ntmps167
    go_wp2_with (first | (go_at_call 99; refine (kinds_c _ _ _ _ _ _ _).mono ?_; rintro e w' ⟨rfl, hg⟩; obtain ⟨fA, fB, hG⟩ := hg.two (Nat.zero_lt_succ _) (Nat.zero_lt_succ _); clear hg) | (go_at_call 209; refine (compare_c _ _ _).mono ?_; rintro e w' ⟨rfl, rfl⟩) | (go_at_call 210; with_reducible refine (c1 _).mono ?_; rintro e w' ⟨rfl, rfl⟩) | (go_at_call 210; with_reducible refine (c2 _).mono ?_; rintro e w' ⟨rfl, rfl⟩) | (go_at_call 211; with_reducible refine (c3 _).mono ?_; rintro e w' ⟨rfl, rfl⟩) | (go_at_call 212; with_reducible refine (c4 _).mono ?_; rintro e w' ⟨rfl, rfl⟩))
    go_ret
    exact ⟨rfl, hG⟩
/-- what a number must be: a whole number of 64 bits, a pattern of 64 bits -/
def inN (i u : Int) : Prop := (-9223372036854775808 ≤ i ∧ i < 9223372036854775808) ∧ 0 ≤ u ∧ u < 18446744073709551616
theorem order_c (a b : Bool) (i u j v : Int) (h : inN i u) (k : inN j v) (w : World) :
    Calls Tryz.prog 167 #[.agg #[.bool a, .int .i64 i, .int .u64 u], .agg #[.bool b, .int .i64 j, .int .u64 v]] w fun e w' => e = .returned (.int .i64 (ordI a i u b j v)) ∧ Gr w w' :=
  order_core a b i u j v _ _ (orderMixed_c i v h.1.1 h.1.2 k.2.1 k.2.2) (orderMixed_c j u k.1.1 k.1.2 h.2.1 h.2.2) (turned_c _ (ordM_four j u)) (orderDoubles_c u v h.2.1 h.2.2 k.2.1 k.2.2) w
/-- what Less, LessEq, Equal answer -/
def lessN (a : Bool) (i u : Int) (b : Bool) (j v : Int) : Bool := ordI a i u b j v == -1
def equalN (a : Bool) (i u : Int) (b : Bool) (j v : Int) : Bool := ordI a i u b j v == 0
def lessEqN (a : Bool) (i u : Int) (b : Bool) (j v : Int) : Bool := ordI a i u b j v == -1 || ordI a i u b j v == 0
set_option maxHeartbeats 400000 in
theorem numLess_c (a b : Bool) (i u j v : Int) (h : inN i u) (k : inN j v) (w : World) :
    Calls Tryz.prog 120 #[.agg #[.bool a, .int .i64 i, .int .u64 u], .agg #[.bool b, .int .i64 j, .int .u64 v]] w fun e w' => e = .returned (.bool (lessN a i u b j v)) ∧ Gr w w' := by
  go_enter Tryz.func120, Tryz.ntmps120
  go_wp2_with (go_at_call 167; refine (order_c _ _ _ _ _ _ h k _).mono ?_; rintro e w' ⟨rfl, hg⟩; obtain ⟨fA, fB, hG⟩ := hg.two (Nat.zero_lt_succ _) (Nat.zero_lt_succ _); clear hg)
  go_ret
  exact ⟨rfl, hG⟩
set_option maxHeartbeats 400000 in
theorem numEqual_c (a b : Bool) (i u j v : Int) (h : inN i u) (k : inN j v) (w : World) :
    Calls Tryz.prog 162 #[.agg #[.bool a, .int .i64 i, .int .u64 u], .agg #[.bool b, .int .i64 j, .int .u64 v]] w fun e w' => e = .returned (.bool (equalN a i u b j v)) ∧ Gr w w' := by
  go_enter Tryz.func162, Tryz.ntmps162
  go_wp2_with (go_at_call 167; refine (order_c _ _ _ _ _ _ h k _).mono ?_; rintro e w' ⟨rfl, hg⟩; obtain ⟨fA, fB, hG⟩ := hg.two (Nat.zero_lt_succ _) (Nat.zero_lt_succ _); clear hg)
  go_ret
  exact ⟨rfl, hG⟩
set_option maxHeartbeats 400000 in
theorem numLessEq_c (a b : Bool) (i u j v : Int) (h : inN i u) (k : inN j v) (w : World) :
    Calls Tryz.prog 122 #[.agg #[.bool a, .int .i64 i, .int .u64 u], .agg #[.bool b, .int .i64 j, .int .u64 v]] w fun e w' => e = .returned (.bool (lessEqN a i u b j v)) ∧ Gr w w' := by
  cases hl : (ordI a i u b j v == -1) with
  | true =>
    go_enter Tryz.func122, Tryz.ntmps122
    go_wp2_with (go_at_call 167; refine (order_c _ _ _ _ _ _ h k _).mono ?_; rintro e w' ⟨rfl, hg⟩; obtain ⟨fA, fB, hG⟩ := hg.two (Nat.zero_lt_succ _) (Nat.zero_lt_succ _); clear hg)
    go_ret
    exact ⟨ret_bool (by simp [lessEqN, hl]), hG⟩
  | false =>
    go_enter Tryz.func122, Tryz.ntmps122
    go_wp2_with (go_at_call 167; refine (order_c _ _ _ _ _ _ h k _).mono ?_; rintro e w' ⟨rfl, hg⟩; obtain ⟨fA, fB, hG⟩ := hg.two (Nat.zero_lt_succ _) (Nat.zero_lt_succ _); clear hg)
    go_ret
    exact ⟨ret_bool (by simp [lessEqN, hl]), hG⟩
end Go.Proofs.YtgmimmdojkoppaaGreatDoor.W.Nu
/- What package ops stands on. -/
