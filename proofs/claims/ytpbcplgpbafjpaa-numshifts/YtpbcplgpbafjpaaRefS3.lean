/- Contracts of the reference of package num: shifts, one place at a time. -/
import Derived.Test.YtpbcplgpbafjpaaNumS
namespace Go.Proofs.Ytpbcplgpbafjpaa.W
open Go.ChangeShapes Go.WideShapes Go.RowKit

theorem v_int {k : IntKind} {a b : Int} (h : a = b) : Value.int k a = .int k b := by rw [h]
theorem pow_le_mul (a : Int) (k n : Nat) (h : k ≤ n) : a * 2 ^ n = a * 2 ^ k * 2 ^ (n - k) := by
  rw [Int.mul_assoc, ← Int.pow_add]
  congr 2; omega
theorem pow_pos_int (n : Nat) : (1 : Int) ≤ 2 ^ n := by
  have e : (2 : Int) ^ n = ((2 ^ n : Nat) : Int) := by rw [Int.natCast_pow]; rfl
  have p := Nat.two_pow_pos n
  rw [e]; omega
/-- what is too great at a place is too great at the end -/
theorem shl_great (a : Int) (k n : Nat) (hk : k < n) (h : 4611686018427387903 < a * 2 ^ k ∨ a * 2 ^ k < -4611686018427387904) : ¬ (-9223372036854775808 ≤ a * 2 ^ n ∧ a * 2 ^ n < 9223372036854775808) := by
  have e := pow_le_mul a k n (by omega)
  have p := pow_pos_int (n - k - 1)
  have e2 : (2 : Int) ^ (n - k) = 2 ^ (n - k - 1) * 2 := by rw [← Int.pow_succ]; congr 1; omega
  rw [e, e2, ← Int.mul_assoc]
  generalize a * 2 ^ k = x at *
  generalize (2 : Int) ^ (n - k - 1) = t at *
  rcases h with h | h
  · have : x * 1 ≤ x * t := Int.mul_le_mul_of_nonneg_left p (by omega)
    omega
  · have : (-x) * 1 ≤ (-x) * t := Int.mul_le_mul_of_nonneg_left p (by omega)
    rw [Int.neg_mul, Int.neg_mul] at this
    omega
set_option maxHeartbeats 1000000 in
theorem refShl_in (a : Int) (b : Nat) (hb : b ≤ 63) (a0 : -9223372036854775808 ≤ a) (a1 : a < 9223372036854775808) (V E : Int) (hV : V = shlV a b) (hE : E = shlE a b) (w : World) :
    Calls Try.prog 25 #[.int .i64 a, .int .i64 b] w fun e w' => e = .returned (.tuple #[.int .i64 V, .int .i64 E]) ∧ w' = w := by
  have HV := hid hV
  have HE := hid hE
  clear hV hE
  have hb1 : ¬ (b : Int) < 0 := by omega
  have hb2 : ¬ (63 : Int) < b := by omega
  go_enter Try.func25, Try.ntmps25
  go_wp2
  go_loop [0, 6] (fun x i => ∃ k : Nat, k ≤ b ∧ i = .int .i64 k ∧ x = .int .i64 (a * 2 ^ k) ∧ -9223372036854775808 ≤ a * 2 ^ k ∧ a * 2 ^ k < 9223372036854775808) (fun _ i => b - (intOf i).toNat)
  case atStart => exact ⟨0, Nat.zero_le _, rfl, v_int (by simp), by simpa using a0, by simpa using a1⟩
  case round =>
    obtain ⟨k, hk, rfl, rfl, r0, r1⟩ := hrel
    have E0 : shlE a b = if -9223372036854775808 ≤ a * 2 ^ b ∧ a * 2 ^ b < 9223372036854775808 then 0 else 10 := by
      unfold shlE; rw [if_pos (by omega)]; rfl
    have V0 : shlV a b = if -9223372036854775808 ≤ a * 2 ^ b ∧ a * 2 ^ b < 9223372036854775808 then a * 2 ^ b else 0 := by
      unfold shlV
      have e : ((b : Int)).toNat = b := rfl
      rw [e]
      by_cases h : -9223372036854775808 ≤ a * 2 ^ b ∧ a * 2 ^ b < 9223372036854775808
      · rw [if_pos ⟨by omega, by omega, h⟩, if_pos h]
      · rw [if_neg (fun g => h g.2.2), if_neg h]
    have HE0 := hid E0
    have HV0 := hid V0
    clear E0 V0
    by_cases hlt : k < b
    · have hst : a * 2 ^ (k + 1) = 2 * (a * 2 ^ k) := by rw [Int.pow_succ, ← Int.mul_assoc]; omega
      have HS := hid hst
      have HG := hid (shl_great a k b hlt)
      clear hst
      generalize hx : a * 2 ^ k = x at *
      have HX := hid hx
      clear hx
      by_cases h1 : 4611686018427387903 < x
      · go_wp2
        go_ret2
        refine ⟨ret_ii ?_ ?_, rfl⟩
        · rw [HV.out, HV0.out, if_neg (HG.out (Or.inl h1))]
        · rw [HE.out, HE0.out, if_neg (HG.out (Or.inl h1))]
      · by_cases h2 : x < -4611686018427387904
        · go_wp2
          go_ret2
          refine ⟨ret_ii ?_ ?_, rfl⟩
          · rw [HV.out, HV0.out, if_neg (HG.out (Or.inr h2))]
          · rw [HE.out, HE0.out, if_neg (HG.out (Or.inr h2))]
        · have hw : IntKind.i64.wrap (2 * x) = 2 * x := wrap_in (by omega)
          go_wp2
          go_round
          case rel => exact ⟨k + 1, hlt, by go_num, v_int HS.out.symm, by rw [HS.out]; omega, by rw [HS.out]; omega⟩
          case measure => simp [intOf]; omega
    · have hkb : k = b := by omega
      subst hkb
      go_wp2
      go_ret2
      refine ⟨ret_ii ?_ ?_, rfl⟩
      · rw [HV.out, HV0.out, if_pos ⟨r0, r1⟩]
      · rw [HE.out, HE0.out, if_pos ⟨r0, r1⟩]
set_option maxHeartbeats 1000000 in
theorem refShl_out (a b : Int) (h : b < 0 ∨ (¬ b < 0 ∧ 63 < b)) (w : World) :
    Calls Try.prog 25 #[.int .i64 a, .int .i64 b] w fun e w' => e = .returned (.tuple #[.int .i64 0, .int .i64 12]) ∧ w' = w := by
  rcases h with h1 | ⟨h1, h2⟩
  all_goals
    go_enter Try.func25, Try.ntmps25
    go_wp2
    go_ret2
    exact ⟨rfl, rfl⟩
theorem refShl_c (a b : Int) (a0 : -9223372036854775808 ≤ a) (a1 : a < 9223372036854775808) (w : World) :
    Calls Try.prog 25 #[.int .i64 a, .int .i64 b] w fun e w' => e = .returned (.tuple #[.int .i64 (shlV a b), .int .i64 (shlE a b)]) ∧ w' = w := by
  by_cases h : 0 ≤ b ∧ b ≤ 63
  · obtain ⟨n, rfl⟩ := Int.eq_ofNat_of_zero_le h.1
    exact refShl_in a n (by omega) a0 a1 _ _ rfl rfl w
  · have e1 : shlV a b = 0 := if_neg (fun g => h ⟨g.1, g.2.1⟩)
    have e2 : shlE a b = 12 := if_neg h
    rw [e1, e2]
    exact refShl_out a b (by omega) w
/-! ### to the right -/
theorem half (x : Int) (h0 : -9223372036854775808 ≤ x) (h1 : x < 9223372036854775808) : (x.tmod 2 = -1 → IntKind.i64.wrap (x - 1) = x - 1 ∧ (x - 1).tdiv 2 = x / 2) ∧ (x.tmod 2 ≠ -1 → x.tdiv 2 = x / 2) := by
  obtain ⟨t1, t2, -, t4, t5⟩ := tdiv_spec x 2 (by decide)
  obtain ⟨s1, s2, -, s4, s5⟩ := tdiv_spec (x - 1) 2 (by decide)
  have t2' := t2 (by decide)
  have s2' := s2 (by decide)
  constructor
  · intro h
    have : x ≠ -9223372036854775808 := by intro e; subst e; revert h; decide
    refine ⟨wrap_in (by omega), ?_⟩
    by_cases g : 0 ≤ x - 1
    · have := s4 g; omega
    · have := s5 (by omega); omega
  · intro h
    by_cases g : 0 ≤ x
    · have := t4 g; omega
    · have := t5 (by omega); omega
theorem ediv_step (a : Int) (k : Nat) : a / 2 ^ (k + 1) = a / 2 ^ k / 2 := by
  rw [Int.pow_succ, Int.ediv_ediv_of_nonneg]
  exact Int.le_of_lt (Int.lt_of_lt_of_le (by decide) (pow_pos_int k))
theorem ediv_range (a : Int) (k : Nat) (h0 : -9223372036854775808 ≤ a) (h1 : a < 9223372036854775808) : -9223372036854775808 ≤ a / 2 ^ k ∧ a / 2 ^ k < 9223372036854775808 := by
  induction k with
  | zero => simpa using ⟨h0, h1⟩
  | succ k ih => rw [ediv_step]; omega
set_option maxHeartbeats 1000000 in
theorem refShr_in (a : Int) (b : Nat) (hb : b ≤ 63) (a0 : -9223372036854775808 ≤ a) (a1 : a < 9223372036854775808) (w : World) :
    Calls Try.prog 27 #[.int .i64 a, .int .i64 b] w fun e w' => e = .returned (.tuple #[.int .i64 (a / 2 ^ b), .int .i64 0]) ∧ w' = w := by
  have hb1 : ¬ (b : Int) < 0 := by omega
  have hb2 : ¬ (63 : Int) < b := by omega
  go_enter Try.func27, Try.ntmps27
  go_wp2
  go_loop [0, 6] (fun x i => ∃ k : Nat, k ≤ b ∧ i = .int .i64 k ∧ x = .int .i64 (a / 2 ^ k)) (fun _ i => b - (intOf i).toNat)
  case atStart => exact ⟨0, Nat.zero_le _, rfl, v_int (by simp)⟩
  case round =>
    obtain ⟨k, hk, rfl, rfl⟩ := hrel
    by_cases hlt : k < b
    · obtain ⟨r0, r1⟩ := ediv_range a k a0 a1
      have HS := hid (ediv_step a k)
      generalize hx : a / 2 ^ k = x at *
      have HX := hid hx
      clear hx
      obtain ⟨m1, m2⟩ := half x r0 r1
      by_cases h1 : x.tmod 2 = -1
      · obtain ⟨q1, q2⟩ := m1 h1
        have q3 : IntKind.i64.wrap ((x - 1).tdiv 2) = x / 2 := by rw [q2]; exact wrap_in (by omega)
        have h1' : (x.tmod 2 == -1) = true := by simpa using h1
        clear m1 m2 q2 h1
        go_wp2
        go_round
        case rel => exact ⟨k + 1, hlt, by go_num, v_int HS.out.symm⟩
        case measure => simp [intOf]; omega
      · have q3 : IntKind.i64.wrap (x.tdiv 2) = x / 2 := by rw [m2 h1]; exact wrap_in (by omega)
        have h1' : (x.tmod 2 == -1) = false := by simpa using h1
        clear m1 m2 h1
        go_wp2
        go_round
        case rel => exact ⟨k + 1, hlt, by go_num, v_int HS.out.symm⟩
        case measure => simp [intOf]; omega
    · have hkb : k = b := by omega
      subst hkb
      go_wp2
      go_ret2
      exact ⟨rfl, rfl⟩
set_option maxHeartbeats 1000000 in
theorem refShr_out (a b : Int) (h : b < 0 ∨ (¬ b < 0 ∧ 63 < b)) (w : World) :
    Calls Try.prog 27 #[.int .i64 a, .int .i64 b] w fun e w' => e = .returned (.tuple #[.int .i64 0, .int .i64 12]) ∧ w' = w := by
  rcases h with h1 | ⟨h1, h2⟩
  all_goals
    go_enter Try.func27, Try.ntmps27
    go_wp2
    go_ret2
    exact ⟨rfl, rfl⟩
theorem refShr_c (a b : Int) (a0 : -9223372036854775808 ≤ a) (a1 : a < 9223372036854775808) (w : World) :
    Calls Try.prog 27 #[.int .i64 a, .int .i64 b] w fun e w' => e = .returned (.tuple #[.int .i64 (shrV a b), .int .i64 (shrE b)]) ∧ w' = w := by
  by_cases h : 0 ≤ b ∧ b ≤ 63
  · obtain ⟨n, rfl⟩ := Int.eq_ofNat_of_zero_le h.1
    have e1 : shrV a n = a / 2 ^ n := if_pos h
    have e2 : shrE n = 0 := if_pos h
    rw [e1, e2]
    exact refShr_in a n (by omega) a0 a1 w
  · have e1 : shrV a b = 0 := if_neg h
    have e2 : shrE b = 12 := if_neg h
    rw [e1, e2]
    exact refShr_out a b (by omega) w
end Go.Proofs.Ytpbcplgpbafjpaa.W
