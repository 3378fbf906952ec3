/- Contracts of package soft and of its reference: sums, differences, products, quotients, signs, floors, orders; one plain function says what both answer. -/
import Derived.Test.YtpbcplgpbafjpabSLeaf
namespace Go.Proofs.Ytpbcplgpbafjpab.W
open Go.ChangeShapes Go.WideShapes Go.RowKit

theorem xor_sign (a : Int) (h0 : 0 ≤ a) (h1 : a < 18446744073709551616) : bits .xor .u64 a 9223372036854775808 = if a < 9223372036854775808 then a + 9223372036854775808 else a - 9223372036854775808 := by
  rw [u64_xor a 9223372036854775808 h0 h1 (by decide) (by decide)]
  have key : ∀ x : Nat, x < 2 ^ 63 → x ^^^ 2 ^ 63 = 2 ^ 63 + x := by
    intro x hx
    rw [← nat_join 63 (2 ^ 63) x (by decide) hx]
    apply Nat.eq_of_testBit_eq
    intro i
    rw [Nat.testBit_xor, Nat.testBit_or, Nat.testBit_two_pow]
    by_cases h : 63 = i
    · subst h; rw [Nat.testBit_lt_two_pow hx]; simp
    · simp [h]
  have e : (9223372036854775808 : Int).toNat = 2 ^ 63 := by decide
  rw [e]
  by_cases h : a < 9223372036854775808
  · rw [if_pos h, key _ (by omega)]; omega
  · rw [if_neg h]
    have e2 : a.toNat = (a - 9223372036854775808).toNat ^^^ 2 ^ 63 := by rw [key _ (by omega)]; omega
    rw [e2, Nat.xor_assoc, Nat.xor_self, Nat.xor_zero]
    omega

/-- what Neg answers -/
def negI (a : Int) : Int := if nanB a = true then 9221120237041090560 else if a < 9223372036854775808 then a + 9223372036854775808 else a - 9223372036854775808
theorem nan_turn (a : Int) : nanB (if a < 9223372036854775808 then a + 9223372036854775808 else a - 9223372036854775808) = nanB a := by
  unfold nanB
  split <;> congr 1 <;> (apply propext) <;> constructor <;> intro h <;> omega
theorem negI_range (a : Int) (h0 : 0 ≤ a) (h1 : a < 18446744073709551616) : 0 ≤ negI a ∧ negI a < 18446744073709551616 := by
  unfold negI; split <;> (try split) <;> omega
/-- what FromInt answers -/
def fromI (i : Int) : Int := (floatOfInt .f64 i : Nat)
theorem fromI_range (i : Int) : 0 ≤ fromI i ∧ fromI i < 18446744073709551616 := by
  have : floatOfInt .f64 i < 18446744073709551616 := write_lt (.number (i < 0) i.natAbs 0)
  unfold fromI; omega
theorem fromI_plain (i : Int) : fltW (floatOfInt .f64 i : Nat) = fromI i := by
  have : nanB (floatOfInt .f64 i : Nat) = false := nearest_plain _ _ _
  simp [fltW, this, fromI]
def lessI (a b : Int) : Bool := Ieee.double.order a.toNat b.toNat == some .lt
def equalI (a b : Int) : Bool := Ieee.double.order a.toNat b.toNat == some .eq
def lessEqI (a b : Int) : Bool := Ieee.double.order a.toNat b.toNat == some .lt || Ieee.double.order a.toNat b.toNat == some .eq

theorem run_same (src dst : TypeId) (x : Nat) (hs : (Try.prog.underlying src).isSome = true) (hd : Try.prog.underlying dst = some (.float .f64)) (w : World) :
    (convert src dst (.float .f64 x)).run Try.prog w = .ok (.float .f64 x) w := run_convert_float_float w src dst .f64 .f64 x x hs hd (by simp [floatToFloatBits])
set_option maxHeartbeats 800000 in
theorem softAdd_c (a b : Int) (w : World) :
    Calls Try.prog 26 #[.int .u64 a, .int .u64 b] w fun e w' => e = .returned (.int .u64 (opI .add a b)) ∧ ∃ m, w' = w.drewN m := by
  have hop := run_fop Try.prog .add (Or.inl rfl) 47 a.toNat b.toNat
  have hcv := fun x w => run_same 47 47 x (by rw [Try.underlying47]; rfl) Try.underlying47 w
  go_enter Try.func26, Try.ntmps26
  go_wp2_with (first | (go_at_call 40; refine (double_c _ _).mono ?_; rintro e w' ⟨rfl, rfl⟩) | (go_at_call 37; refine (pattern_c _ _).mono ?_; rintro e w' ⟨rfl, rfl⟩))
  go_ret
  exact ⟨ret_int (fltW_fres ..), _, rfl⟩
set_option maxHeartbeats 800000 in
theorem softSub_c (a b : Int) (w : World) :
    Calls Try.prog 29 #[.int .u64 a, .int .u64 b] w fun e w' => e = .returned (.int .u64 (opI .sub a b)) ∧ ∃ m, w' = w.drewN m := by
  have hop := run_fop Try.prog .sub (Or.inr (Or.inl rfl)) 47 a.toNat b.toNat
  have hcv := fun x w => run_same 47 47 x (by rw [Try.underlying47]; rfl) Try.underlying47 w
  go_enter Try.func29, Try.ntmps29
  go_wp2_with (first | (go_at_call 40; refine (double_c _ _).mono ?_; rintro e w' ⟨rfl, rfl⟩) | (go_at_call 37; refine (pattern_c _ _).mono ?_; rintro e w' ⟨rfl, rfl⟩))
  go_ret
  exact ⟨ret_int (fltW_fres ..), _, rfl⟩
set_option maxHeartbeats 800000 in
theorem softMul_c (a b : Int) (w : World) :
    Calls Try.prog 31 #[.int .u64 a, .int .u64 b] w fun e w' => e = .returned (.int .u64 (opI .mul a b)) ∧ ∃ m, w' = w.drewN m := by
  have hop := run_fop Try.prog .mul (Or.inr (Or.inr (Or.inl rfl))) 47 a.toNat b.toNat
  have hcv := fun x w => run_same 47 47 x (by rw [Try.underlying47]; rfl) Try.underlying47 w
  go_enter Try.func31, Try.ntmps31
  go_wp2_with (first | (go_at_call 40; refine (double_c _ _).mono ?_; rintro e w' ⟨rfl, rfl⟩) | (go_at_call 37; refine (pattern_c _ _).mono ?_; rintro e w' ⟨rfl, rfl⟩))
  go_ret
  exact ⟨ret_int (fltW_fres ..), _, rfl⟩
set_option maxHeartbeats 800000 in
theorem softDiv_c (a b : Int) (w : World) :
    Calls Try.prog 21 #[.int .u64 a, .int .u64 b] w fun e w' => e = .returned (.int .u64 (opI .quo a b)) ∧ ∃ m, w' = w.drewN m := by
  have hop := run_fop Try.prog .quo (Or.inr (Or.inr (Or.inr rfl))) 47 a.toNat b.toNat
  have hcv := fun x w => run_same 47 47 x (by rw [Try.underlying47]; rfl) Try.underlying47 w
  go_enter Try.func21, Try.ntmps21
  go_wp2_with (first | (go_at_call 40; refine (double_c _ _).mono ?_; rintro e w' ⟨rfl, rfl⟩) | (go_at_call 37; refine (pattern_c _ _).mono ?_; rintro e w' ⟨rfl, rfl⟩))
  go_ret
  exact ⟨ret_int (fltW_fres ..), _, rfl⟩
set_option maxHeartbeats 800000 in
theorem softFloor_c (a : Int) (h0 : 0 ≤ a) (w : World) :
    Calls Try.prog 44 #[.int .u64 a] w fun e w' => e = .returned (.int .u64 (floorI a)) ∧ ∃ m, w' = w.drewN m := by
  go_enter Try.func44, Try.ntmps44
  go_wp2_with (first | (go_at_call 40; refine (double_c _ _).mono ?_; rintro e w' ⟨rfl, rfl⟩) | (go_at_call 50; refine (floor_c _ _).mono ?_; rintro e w' ⟨rfl, rfl⟩) | (go_at_call 37; refine (pattern_c _ _).mono ?_; rintro e w' ⟨rfl, rfl⟩))
  go_ret
  exact ⟨ret_int (fltW_flres _ a h0 _), _, rfl⟩
set_option maxHeartbeats 800000 in
theorem softFromInt_c (i : Int) (w : World) :
    Calls Try.prog 18 #[.int .i64 i] w fun e w' => e = .returned (.int .u64 (fromI i)) ∧ w' = w := by
  go_enter Try.func18, Try.ntmps18
  go_wp2_with (go_at_call 37; refine (pattern_c _ _).mono ?_; rintro e w' ⟨rfl, rfl⟩)
  go_ret
  exact ⟨ret_int (fromI_plain i), rfl⟩
set_option maxHeartbeats 800000 in
theorem softLess_c (a b : Int) (w : World) :
    Calls Try.prog 53 #[.int .u64 a, .int .u64 b] w fun e w' => e = .returned (.bool (lessI a b)) ∧ w' = w := by
  go_enter Try.func53, Try.ntmps53
  go_wp2_with (go_at_call 40; refine (double_c _ _).mono ?_; rintro e w' ⟨rfl, rfl⟩)
  go_ret
  exact ⟨rfl, rfl⟩
set_option maxHeartbeats 800000 in
theorem softEqual_c (a b : Int) (w : World) :
    Calls Try.prog 54 #[.int .u64 a, .int .u64 b] w fun e w' => e = .returned (.bool (equalI a b)) ∧ w' = w := by
  go_enter Try.func54, Try.ntmps54
  go_wp2_with (go_at_call 40; refine (double_c _ _).mono ?_; rintro e w' ⟨rfl, rfl⟩)
  go_ret
  exact ⟨rfl, rfl⟩
set_option maxHeartbeats 800000 in
theorem softNeg_c (a : Int) (h0 : 0 ≤ a) (h1 : a < 18446744073709551616) (w : World) :
    Calls Try.prog 32 #[.int .u64 a] w fun e w' => e = .returned (.int .u64 (negI a)) ∧ w' = w := by
  have hx := hid (xor_sign a h0 h1)
  go_enter Try.func32, Try.ntmps32
  go_wp2_with (first | (go_at_call 40; refine (double_c _ _).mono ?_; rintro e w' ⟨rfl, rfl⟩) | (go_at_call 37; refine (pattern_c _ _).mono ?_; rintro e w' ⟨rfl, rfl⟩))
  go_ret
  refine ⟨ret_int ?_, rfl⟩
  rw [hx.out]
  have hn := nan_turn a
  unfold fltW negI
  have e : max (if a < 9223372036854775808 then a + 9223372036854775808 else a - 9223372036854775808) 0 = if a < 9223372036854775808 then a + 9223372036854775808 else a - 9223372036854775808 := by split <;> omega
  rw [e, hn]
/-- does a double's whole part fit into 64 bits? -/
def fitsB (a : Int) : Bool := (Ieee.double.order a.toNat 14114281232179134464 == some .gt || Ieee.double.order a.toNat 14114281232179134464 == some .eq) && Ieee.double.order a.toNat 4890909195324358656 == some .lt
set_option maxHeartbeats 800000 in
theorem softTrunc_in (a v : Int) (hv : floatToIntVal .f64 a.toNat .i64 = some v) (hf : fitsB a = true) (w : World) :
    Calls Try.prog 52 #[.int .u64 a] w fun e w' => e = .returned (.tuple #[.int .i64 v, .int .i64 0]) ∧ w' = w := by
  have hc : ∀ w, (convert 47 2 (.float .f64 a.toNat)).run Try.prog w = .ok (.int .i64 v) w := fun w => run_convert_float_int w 47 2 .f64 .i64 a.toNat v (by rw [Try.underlying47]; rfl) Try.underlying2 hv
  unfold fitsB at hf
  rw [Bool.and_eq_true, Bool.or_eq_true] at hf
  obtain ⟨h1, h2⟩ := hf
  have h2' : FloatKind.f64.format.order a.toNat 4890909195324358656 = some .lt := eq_of_beq h2
  rcases h1 with h1 | h1
  · have h1' : FloatKind.f64.format.order a.toNat 14114281232179134464 = some .gt := eq_of_beq h1
    clear h1 h2
    go_enter Try.func52, Try.ntmps52
    go_wp2_with (go_at_call 40; refine (double_c _ _).mono ?_; rintro e w' ⟨rfl, rfl⟩)
    go_ret2
    exact ⟨rfl, rfl⟩
  · have h1' : FloatKind.f64.format.order a.toNat 14114281232179134464 = some .eq := eq_of_beq h1
    clear h1 h2
    go_enter Try.func52, Try.ntmps52
    go_wp2_with (go_at_call 40; refine (double_c _ _).mono ?_; rintro e w' ⟨rfl, rfl⟩)
    go_ret2
    exact ⟨rfl, rfl⟩
set_option maxHeartbeats 800000 in
theorem softTrunc_out (a : Int) (hf : fitsB a = false) (w : World) :
    Calls Try.prog 52 #[.int .u64 a] w fun e w' => e = .returned (.tuple #[.int .i64 0, .int .i64 13]) ∧ w' = w := by
  have hf' : ((FloatKind.f64.format.order a.toNat 14114281232179134464 == some .gt || FloatKind.f64.format.order a.toNat 14114281232179134464 == some .eq) && FloatKind.f64.format.order a.toNat 4890909195324358656 == some .lt) = false := hf
  cases h1 : (FloatKind.f64.format.order a.toNat 14114281232179134464 == some .gt || FloatKind.f64.format.order a.toNat 14114281232179134464 == some .eq) with
  | false =>
    have h1a : (FloatKind.f64.format.order a.toNat 14114281232179134464 == some .gt) = false := by revert h1; cases (FloatKind.f64.format.order a.toNat 14114281232179134464 == some .gt) <;> simp
    have h1b : (FloatKind.f64.format.order a.toNat 14114281232179134464 == some .eq) = false := by revert h1; cases (FloatKind.f64.format.order a.toNat 14114281232179134464 == some .eq) <;> simp
    go_enter Try.func52, Try.ntmps52
    go_wp2_with (go_at_call 40; refine (double_c _ _).mono ?_; rintro e w' ⟨rfl, rfl⟩)
    go_ret2
    exact ⟨rfl, rfl⟩
  | true =>
    have h2 : (FloatKind.f64.format.order a.toNat 4890909195324358656 == some .lt) = false := by rw [h1] at hf'; simpa using hf'
    rw [Bool.or_eq_true] at h1
    rcases h1 with h1 | h1
    · have h1' : FloatKind.f64.format.order a.toNat 14114281232179134464 = some .gt := eq_of_beq h1
      clear h1 hf hf'
      go_enter Try.func52, Try.ntmps52
      go_wp2_with (go_at_call 40; refine (double_c _ _).mono ?_; rintro e w' ⟨rfl, rfl⟩)
      go_ret2
      exact ⟨rfl, rfl⟩
    · have h1' : FloatKind.f64.format.order a.toNat 14114281232179134464 = some .eq := eq_of_beq h1
      clear h1 hf hf'
      go_enter Try.func52, Try.ntmps52
      go_wp2_with (go_at_call 40; refine (double_c _ _).mono ?_; rintro e w' ⟨rfl, rfl⟩)
      go_ret2
      exact ⟨rfl, rfl⟩
end Go.Proofs.Ytpbcplgpbafjpab.W
