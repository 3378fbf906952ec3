/- Contracts of package num: shifts. -/
import Derived.Test.YtpbcplgpbafjpabNumW
import Derived.Test.YtpbcplgpbafjpabNumP
namespace Go.Proofs.Ytpbcplgpbafjpab.W
open Go.ChangeShapes Go.WideShapes Go.RowKit

set_option maxHeartbeats 400000 in
theorem shiftFits_c (b : Int) (w : World) :
    Calls Try.prog 36 #[.int .i64 b] w fun e w' => e = .returned (.bool (decide (0 ≤ b ∧ b ≤ 63))) ∧ w' = w := by
  by_cases h : 0 ≤ b
  · go_enter Try.func36, Try.ntmps36
    go_wp2
    go_ret
    exact ⟨ret_bool (by simp [h]), rfl⟩
  · go_enter Try.func36, Try.ntmps36
    go_wp2
    go_ret
    exact ⟨ret_bool (by simp; omega), rfl⟩
set_option maxHeartbeats 400000 in
theorem shl_out (a b : Int) (hd : decide (0 ≤ b ∧ b ≤ 63) = false) (w : World) :
    Calls Try.prog 15 #[.int .i64 a, .int .i64 b] w fun e w' => e = .returned (.tuple #[.int .i64 0, .int .i64 12]) ∧ w' = w := by
  go_enter Try.func15, Try.ntmps15
  go_wp2_with (go_at_call 36; refine (shiftFits_c _ _).mono ?_; rw [hd]; rintro e w' ⟨rfl, rfl⟩)
  go_ret2
  exact ⟨rfl, rfl⟩
set_option maxHeartbeats 400000 in
theorem shl_over (a b q : Int) (h0 : 0 ≤ b) (h1 : b ≤ 63) (hq : wrap64 (a * 2 ^ b.toNat) / 2 ^ b.toNat = q) (hx : (q != a) = true) (w : World) :
    Calls Try.prog 15 #[.int .i64 a, .int .i64 b] w fun e w' => e = .returned (.tuple #[.int .i64 0, .int .i64 10]) ∧ w' = w := by
  have hd : decide (0 ≤ b ∧ b ≤ 63) = true := decide_eq_true ⟨h0, h1⟩
  go_enter Try.func15, Try.ntmps15
  go_wp2_with (go_at_call 36; refine (shiftFits_c _ _).mono ?_; rw [hd]; rintro e w' ⟨rfl, rfl⟩)
  go_ret2
  exact ⟨rfl, rfl⟩
set_option maxHeartbeats 400000 in
theorem shl_in (a b q : Int) (h0 : 0 ≤ b) (h1 : b ≤ 63) (hq : wrap64 (a * 2 ^ b.toNat) / 2 ^ b.toNat = q) (hx : (q != a) = false) (w : World) :
    Calls Try.prog 15 #[.int .i64 a, .int .i64 b] w fun e w' => e = .returned (.tuple #[.int .i64 (wrap64 (a * 2 ^ b.toNat)), .int .i64 0]) ∧ w' = w := by
  have hd : decide (0 ≤ b ∧ b ≤ 63) = true := decide_eq_true ⟨h0, h1⟩
  go_enter Try.func15, Try.ntmps15
  go_wp2_with (go_at_call 36; refine (shiftFits_c _ _).mono ?_; rw [hd]; rintro e w' ⟨rfl, rfl⟩)
  go_ret2
  exact ⟨rfl, rfl⟩
/-- what Shl and Shr answer -/
def shlV (a b : Int) : Int := if 0 ≤ b ∧ b ≤ 63 ∧ -9223372036854775808 ≤ a * 2 ^ b.toNat ∧ a * 2 ^ b.toNat < 9223372036854775808 then a * 2 ^ b.toNat else 0
def shlE (a b : Int) : Int := if 0 ≤ b ∧ b ≤ 63 then (if -9223372036854775808 ≤ a * 2 ^ b.toNat ∧ a * 2 ^ b.toNat < 9223372036854775808 then 0 else 10) else 12
def shrV (a b : Int) : Int := if 0 ≤ b ∧ b ≤ 63 then a / 2 ^ b.toNat else 0
def shrE (b : Int) : Int := if 0 ≤ b ∧ b ≤ 63 then 0 else 12
theorem two_pow_range {b : Int} (h1 : b ≤ 63) : 0 < (2 : Int) ^ b.toNat ∧ (2 : Int) ^ b.toNat ≤ 9223372036854775808 := by
  have e : (2 : Int) ^ b.toNat = ((2 ^ b.toNat : Nat) : Int) := by rw [Int.natCast_pow]; rfl
  have l : 2 ^ b.toNat ≤ 2 ^ 63 := Nat.pow_le_pow_right (by omega) (by omega)
  have p := Nat.two_pow_pos b.toNat
  rw [e]
  omega
theorem wrap64_eq (n : Int) : wrap64 n = IntKind.i64.wrap n := by rw [IntKind.wrap_i64, wrap64]
theorem shl_c (a b : Int) (w : World) :
    Calls Try.prog 15 #[.int .i64 a, .int .i64 b] w fun e w' => e = .returned (.tuple #[.int .i64 (shlV a b), .int .i64 (shlE a b)]) ∧ w' = w := by
  unfold shlV shlE
  by_cases h : 0 ≤ b ∧ b ≤ 63
  · obtain ⟨t0, t1⟩ := two_pow_range h.2
    by_cases hf : -9223372036854775808 ≤ a * 2 ^ b.toNat ∧ a * 2 ^ b.toNat < 9223372036854775808
    · rw [if_pos ⟨h.1, h.2, hf⟩, if_pos h, if_pos hf]
      have e : wrap64 (a * 2 ^ b.toNat) = a * 2 ^ b.toNat := by rw [wrap64_eq]; exact wrap_in hf
      have g := shl_in a b a h.1 h.2 (by rw [e]; exact Int.mul_ediv_cancel _ (by omega)) (by simp) w
      rw [e] at g
      exact g
    · rw [if_neg (fun g => hf g.2.2), if_pos h, if_neg hf]
      refine shl_over a b _ h.1 h.2 rfl ?_ w
      rw [bne_iff_ne, wrap64_eq]
      intro hq
      obtain ⟨k, k1, k2, k3⟩ := wrap_cases (a * 2 ^ b.toNat)
      have e := Int.mul_ediv_add_emod (IntKind.i64.wrap (a * 2 ^ b.toNat)) (2 ^ b.toNat)
      have e1 := Int.emod_nonneg (IntKind.i64.wrap (a * 2 ^ b.toNat)) (b := 2 ^ b.toNat) (by omega)
      have e2 := Int.emod_lt_of_pos (IntKind.i64.wrap (a * 2 ^ b.toNat)) t0
      rw [hq, Int.mul_comm] at e
      generalize a * 2 ^ b.toNat = Q at *
      omega
  · rw [if_neg (fun g => h ⟨g.1, g.2.1⟩), if_neg h]
    exact shl_out a b (decide_eq_false h) w
set_option maxHeartbeats 400000 in
theorem shr_out (a b : Int) (hd : decide (0 ≤ b ∧ b ≤ 63) = false) (w : World) :
    Calls Try.prog 16 #[.int .i64 a, .int .i64 b] w fun e w' => e = .returned (.tuple #[.int .i64 0, .int .i64 12]) ∧ w' = w := by
  go_enter Try.func16, Try.ntmps16
  go_wp2_with (go_at_call 36; refine (shiftFits_c _ _).mono ?_; rw [hd]; rintro e w' ⟨rfl, rfl⟩)
  go_ret2
  exact ⟨rfl, rfl⟩
set_option maxHeartbeats 400000 in
theorem shr_in (a b : Int) (h0 : 0 ≤ b) (h1 : b ≤ 63) (w : World) :
    Calls Try.prog 16 #[.int .i64 a, .int .i64 b] w fun e w' => e = .returned (.tuple #[.int .i64 (a / 2 ^ b.toNat), .int .i64 0]) ∧ w' = w := by
  have hd : decide (0 ≤ b ∧ b ≤ 63) = true := decide_eq_true ⟨h0, h1⟩
  go_enter Try.func16, Try.ntmps16
  go_wp2_with (go_at_call 36; refine (shiftFits_c _ _).mono ?_; rw [hd]; rintro e w' ⟨rfl, rfl⟩)
  go_ret2
  exact ⟨rfl, rfl⟩
theorem shr_c (a b : Int) (w : World) :
    Calls Try.prog 16 #[.int .i64 a, .int .i64 b] w fun e w' => e = .returned (.tuple #[.int .i64 (shrV a b), .int .i64 (shrE b)]) ∧ w' = w := by
  unfold shrV shrE
  by_cases h : 0 ≤ b ∧ b ≤ 63
  · rw [if_pos h, if_pos h]; exact shr_in a b h.1 h.2 w
  · rw [if_neg h, if_neg h]; exact shr_out a b (decide_eq_false h) w
end Go.Proofs.Ytpbcplgpbafjpab.W
