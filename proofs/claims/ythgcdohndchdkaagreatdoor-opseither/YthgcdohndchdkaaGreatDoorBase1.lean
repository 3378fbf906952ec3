import Derived.Test.YthgcdohndchdkaaGreatDoorProg
import Derived.Test.YthgcdohndchdkaaGreatDoorBase0
import Derived.WalkKit
import Derived.WalkLawsBesides
import Derived.Laws.Externs
import Derived.Laws.BitsAllLaws
import Derived.KernelRfl
import Derived.Deep.QuietTactic
import Derived.BigQuiet
import Derived.Sort.Grow
import Derived.Shelf.SlSortCmp.QuietGrown
import Derived.Deep.RegionHeld3
import Derived.RowKit3
import Derived.Below
/- Contracts of the small functions beneath package soft and its reference: doubles by their patterns, and back. -/
namespace Go.Proofs.YthgcdohndchdkaaGreatDoor.W.Nu
open Go.ChangeShapes Go.WideShapes Go.RowKit

theorem ret_bool {a b : Bool} (h : a = b) : Ending.returned (.bool a) = .returned (.bool b) := by rw [h]
theorem ret_int {k : IntKind} {a b : Int} (h : a = b) : Ending.returned (.int k a) = .returned (.int k b) := by rw [h]
theorem hid {p : Prop} (h : p) : Hid p := h

theorem run_frombits64 (n : Int) (w : World) : (callFunc 212 #[.int .u64 n]).run Tryz.prog w = .ok (.value (.float .f64 n.toNat)) w := by
  rw [run_callFunc_extern Tryz.func212 (e := Extern.MathFloatBits.float64frombits) (by kernel_rfl) (by kernel_rfl) (by kernel_rfl) (by kernel_rfl)]
  rfl
theorem run_bits64 (x : Nat) (w : World) : (callFunc 211 #[.float .f64 x]).run Tryz.prog w = .ok (.value (.int .u64 (x : Nat))) w := by
  rw [run_callFunc_extern Tryz.func211 (e := Extern.MathFloatBits.float64bits) (by kernel_rfl) (by kernel_rfl) (by kernel_rfl) (by kernel_rfl)]
  rfl
theorem run_archFloor (x : Nat) (w : World) : (callFunc 243 #[.float .f64 x]).run Tryz.prog w = .ok (.value (.float .f64 (flres Tryz.prog x w))) (w.drewN (fldraw x)) := by
  rw [run_callFunc_extern Tryz.func243 (e := Extern.MathFloor.toIntegral "math.archFloor" .down) (by kernel_rfl) (by kernel_rfl) (by kernel_rfl) (by kernel_rfl), run_floor]
  rfl

set_option maxHeartbeats 400000 in
theorem double_c (n : Int) (w : World) :
    Calls Tryz.prog 170 #[.int .u64 n] w fun e w' => e = .returned (.float .f64 n.toNat) ∧ w' = w := by
  have hx := run_frombits64 n
  go_enter Tryz.func170, Tryz.ntmps170
  go_wp2
  go_ret
  exact ⟨rfl, rfl⟩
set_option maxHeartbeats 400000 in
theorem isNaN_f (x : Nat) (w : World) :
    Calls Tryz.prog 210 #[.float .f64 x] w fun e w' => e = .returned (.bool (nanB (x : Nat))) ∧ w' = w := by
  go_enter Tryz.func210, Tryz.ntmps210
  go_wp2
  go_ret
  exact ⟨ret_bool (isNaN_eq x), rfl⟩
set_option maxHeartbeats 400000 in
theorem pattern_c (x : Nat) (w : World) :
    Calls Tryz.prog 169 #[.float .f64 x] w fun e w' => e = .returned (.int .u64 (fltW (x : Nat))) ∧ w' = w := by
  have hx := run_bits64 x
  cases hn : nanB (x : Nat) with
  | true =>
    go_enter Tryz.func169, Tryz.ntmps169
    go_wp2_with (go_at_call 210; refine (isNaN_f _ _).mono ?_; rintro e w' ⟨rfl, rfl⟩)
    go_ret
    exact ⟨ret_int (by simp [fltW, hn]), rfl⟩
  | false =>
    go_enter Tryz.func169, Tryz.ntmps169
    go_wp2_with (go_at_call 210; refine (isNaN_f _ _).mono ?_; rintro e w' ⟨rfl, rfl⟩)
    go_ret
    exact ⟨ret_int (by simp [fltW, hn]), rfl⟩
set_option maxHeartbeats 400000 in
theorem floor_c (x : Nat) (w : World) :
    Calls Tryz.prog 213 #[.float .f64 x] w fun e w' => e = .returned (.float .f64 (flres Tryz.prog x w)) ∧ w' = w.drewN (fldraw x) := by
  have hx := run_archFloor x
  go_enter Tryz.func213, Tryz.ntmps213
  go_wp2
  go_ret
  exact ⟨rfl, rfl⟩
theorem nan_ref1 (n : Int) (h : n / 4503599627370496 % 2048 = 2047) : (n % 4503599627370496 != 0) = nanB n := by
  unfold nanB
  rw [Bool.eq_iff_iff]
  simp only [bne_iff_ne, ne_eq, decide_eq_true_eq]
  omega
theorem nan_ref2 (n : Int) (h : ¬ n / 4503599627370496 % 2048 = 2047) : false = nanB n := by
  unfold nanB
  rw [Bool.eq_iff_iff]
  simp only [Bool.false_eq_true, decide_eq_true_eq, false_iff]
  omega
set_option maxHeartbeats 400000 in
theorem refNaN_c (n : Int) (h0 : 0 ≤ n) (h1 : n < 18446744073709551616) (w : World) :
    Calls Tryz.prog 15 #[.int .u64 n] w fun e w' => e = .returned (.bool (nanB n)) ∧ w' = w := by
  go_enter Tryz.func15, Tryz.ntmps15
  go_wp2
  all_goals go_ret
  · exact ⟨ret_bool (nan_ref1 n (by assumption)), rfl⟩
  · exact ⟨ret_bool (nan_ref2 n (by assumption)), rfl⟩
end Go.Proofs.YthgcdohndchdkaaGreatDoor.W.Nu
/- Contracts of package soft and of its reference: sums, differences, products, quotients, signs, floors, orders; one plain function says what both answer. -/
namespace Go.Proofs.YthgcdohndchdkaaGreatDoor.W.Nu
open Go.ChangeShapes Go.WideShapes Go.RowKit

theorem xor_sign (a : Int) (h0 : 0 ≤ a) (h1 : a < 18446744073709551616) : bits .xor .u64 a 9223372036854775808 = if a < 9223372036854775808 then a + 9223372036854775808 else a - 9223372036854775808 := by
  rw [u64_xor a 9223372036854775808 h0 h1 (by decide) (by decide)]
  have key : ∀ x : Nat, x < 2 ^ 63 → x ^^^ 2 ^ 63 = 2 ^ 63 + x := by
    intro x hx
    rw [← nat_join 63 (2 ^ 63) x (by decide) hx]
    apply Nat.eq_of_testBit_eq
    intro i
    rw [Nat.testBit_xor, Nat.testBit_or, Nat.testBit_two_pow]
    by_cases h : 63 = i
    · subst h; rw [Nat.testBit_lt_two_pow hx]; simp
    · simp [h]
  have e : (9223372036854775808 : Int).toNat = 2 ^ 63 := by decide
  rw [e]
  by_cases h : a < 9223372036854775808
  · rw [if_pos h, key _ (by omega)]; omega
  · rw [if_neg h]
    have e2 : a.toNat = (a - 9223372036854775808).toNat ^^^ 2 ^ 63 := by rw [key _ (by omega)]; omega
    rw [e2, Nat.xor_assoc, Nat.xor_self, Nat.xor_zero]
    omega

/-- what Neg answers -/
def negI (a : Int) : Int := if nanB a = true then 9221120237041090560 else if a < 9223372036854775808 then a + 9223372036854775808 else a - 9223372036854775808
theorem nan_turn (a : Int) : nanB (if a < 9223372036854775808 then a + 9223372036854775808 else a - 9223372036854775808) = nanB a := by
  unfold nanB
  split <;> congr 1 <;> (apply propext) <;> constructor <;> intro h <;> omega
theorem negI_range (a : Int) (h0 : 0 ≤ a) (h1 : a < 18446744073709551616) : 0 ≤ negI a ∧ negI a < 18446744073709551616 := by
  unfold negI; split <;> (try split) <;> omega
/-- what FromInt answers -/
def fromI (i : Int) : Int := (floatOfInt .f64 i : Nat)
theorem fromI_range (i : Int) : 0 ≤ fromI i ∧ fromI i < 18446744073709551616 := by
  have : floatOfInt .f64 i < 18446744073709551616 := write_lt (.number (i < 0) i.natAbs 0)
  unfold fromI; omega
theorem fromI_plain (i : Int) : fltW (floatOfInt .f64 i : Nat) = fromI i := by
  have : nanB (floatOfInt .f64 i : Nat) = false := nearest_plain _ _ _
  simp [fltW, this, fromI]
def lessI (a b : Int) : Bool := Ieee.double.order a.toNat b.toNat == some .lt
def equalI (a b : Int) : Bool := Ieee.double.order a.toNat b.toNat == some .eq
def lessEqI (a b : Int) : Bool := Ieee.double.order a.toNat b.toNat == some .lt || Ieee.double.order a.toNat b.toNat == some .eq

theorem run_same (src dst : TypeId) (x : Nat) (hs : (Tryz.prog.underlying src).isSome = true) (hd : Tryz.prog.underlying dst = some (.float .f64)) (w : World) :
    (convert src dst (.float .f64 x)).run Tryz.prog w = .ok (.float .f64 x) w := run_convert_float_float w src dst .f64 .f64 x x hs hd (by simp [floatToFloatBits])
set_option maxHeartbeats 800000 in
theorem softAdd_c (a b : Int) (w : World) :
    Calls Tryz.prog 166 #[.int .u64 a, .int .u64 b] w fun e w' => e = .returned (.int .u64 (opI .add a b)) ∧ ∃ m, w' = w.drewN m := by
  have hop := run_fop Tryz.prog .add (Or.inl rfl) 189 a.toNat b.toNat
  have hcv := fun x w => run_same 189 189 x (by rw [Tryz.underlying189]; rfl) Tryz.underlying189 w
  go_enter Tryz.func166, Tryz.ntmps166
  go_wp2_with (first | (go_at_call 170; refine (double_c _ _).mono ?_; rintro e w' ⟨rfl, rfl⟩) | (go_at_call 169; refine (pattern_c _ _).mono ?_; rintro e w' ⟨rfl, rfl⟩))
  go_ret
  exact ⟨ret_int (fltW_fres ..), _, rfl⟩
set_option maxHeartbeats 800000 in
theorem softSub_c (a b : Int) (w : World) :
    Calls Tryz.prog 102 #[.int .u64 a, .int .u64 b] w fun e w' => e = .returned (.int .u64 (opI .sub a b)) ∧ ∃ m, w' = w.drewN m := by
  have hop := run_fop Tryz.prog .sub (Or.inr (Or.inl rfl)) 189 a.toNat b.toNat
  have hcv := fun x w => run_same 189 189 x (by rw [Tryz.underlying189]; rfl) Tryz.underlying189 w
  go_enter Tryz.func102, Tryz.ntmps102
  go_wp2_with (first | (go_at_call 170; refine (double_c _ _).mono ?_; rintro e w' ⟨rfl, rfl⟩) | (go_at_call 169; refine (pattern_c _ _).mono ?_; rintro e w' ⟨rfl, rfl⟩))
  go_ret
  exact ⟨ret_int (fltW_fres ..), _, rfl⟩
set_option maxHeartbeats 800000 in
theorem softMul_c (a b : Int) (w : World) :
    Calls Tryz.prog 105 #[.int .u64 a, .int .u64 b] w fun e w' => e = .returned (.int .u64 (opI .mul a b)) ∧ ∃ m, w' = w.drewN m := by
  have hop := run_fop Tryz.prog .mul (Or.inr (Or.inr (Or.inl rfl))) 189 a.toNat b.toNat
  have hcv := fun x w => run_same 189 189 x (by rw [Tryz.underlying189]; rfl) Tryz.underlying189 w
  go_enter Tryz.func105, Tryz.ntmps105
  go_wp2_with (first | (go_at_call 170; refine (double_c _ _).mono ?_; rintro e w' ⟨rfl, rfl⟩) | (go_at_call 169; refine (pattern_c _ _).mono ?_; rintro e w' ⟨rfl, rfl⟩))
  go_ret
  exact ⟨ret_int (fltW_fres ..), _, rfl⟩
set_option maxHeartbeats 800000 in
theorem softDiv_c (a b : Int) (w : World) :
    Calls Tryz.prog 106 #[.int .u64 a, .int .u64 b] w fun e w' => e = .returned (.int .u64 (opI .quo a b)) ∧ ∃ m, w' = w.drewN m := by
  have hop := run_fop Tryz.prog .quo (Or.inr (Or.inr (Or.inr rfl))) 189 a.toNat b.toNat
  have hcv := fun x w => run_same 189 189 x (by rw [Tryz.underlying189]; rfl) Tryz.underlying189 w
  go_enter Tryz.func106, Tryz.ntmps106
  go_wp2_with (first | (go_at_call 170; refine (double_c _ _).mono ?_; rintro e w' ⟨rfl, rfl⟩) | (go_at_call 169; refine (pattern_c _ _).mono ?_; rintro e w' ⟨rfl, rfl⟩))
  go_ret
  exact ⟨ret_int (fltW_fres ..), _, rfl⟩
set_option maxHeartbeats 800000 in
theorem softFloor_c (a : Int) (h0 : 0 ≤ a) (w : World) :
    Calls Tryz.prog 171 #[.int .u64 a] w fun e w' => e = .returned (.int .u64 (floorI a)) ∧ ∃ m, w' = w.drewN m := by
  go_enter Tryz.func171, Tryz.ntmps171
  go_wp2_with (first | (go_at_call 170; refine (double_c _ _).mono ?_; rintro e w' ⟨rfl, rfl⟩) | (go_at_call 213; refine (floor_c _ _).mono ?_; rintro e w' ⟨rfl, rfl⟩) | (go_at_call 169; refine (pattern_c _ _).mono ?_; rintro e w' ⟨rfl, rfl⟩))
  go_ret
  exact ⟨ret_int (fltW_flres _ a h0 _), _, rfl⟩
set_option maxHeartbeats 800000 in
theorem softFromInt_c (i : Int) (w : World) :
    Calls Tryz.prog 132 #[.int .i64 i] w fun e w' => e = .returned (.int .u64 (fromI i)) ∧ w' = w := by
  go_enter Tryz.func132, Tryz.ntmps132
  go_wp2_with (go_at_call 169; refine (pattern_c _ _).mono ?_; rintro e w' ⟨rfl, rfl⟩)
  go_ret
  exact ⟨ret_int (fromI_plain i), rfl⟩
set_option maxHeartbeats 800000 in
theorem softLess_c (a b : Int) (w : World) :
    Calls Tryz.prog 248 #[.int .u64 a, .int .u64 b] w fun e w' => e = .returned (.bool (lessI a b)) ∧ w' = w := by
  go_enter Tryz.func248, Tryz.ntmps248
  go_wp2_with (go_at_call 170; refine (double_c _ _).mono ?_; rintro e w' ⟨rfl, rfl⟩)
  go_ret
  exact ⟨rfl, rfl⟩
set_option maxHeartbeats 800000 in
theorem softEqual_c (a b : Int) (w : World) :
    Calls Tryz.prog 249 #[.int .u64 a, .int .u64 b] w fun e w' => e = .returned (.bool (equalI a b)) ∧ w' = w := by
  go_enter Tryz.func249, Tryz.ntmps249
  go_wp2_with (go_at_call 170; refine (double_c _ _).mono ?_; rintro e w' ⟨rfl, rfl⟩)
  go_ret
  exact ⟨rfl, rfl⟩
set_option maxHeartbeats 800000 in
theorem softNeg_c (a : Int) (h0 : 0 ≤ a) (h1 : a < 18446744073709551616) (w : World) :
    Calls Tryz.prog 179 #[.int .u64 a] w fun e w' => e = .returned (.int .u64 (negI a)) ∧ w' = w := by
  have hx := hid (xor_sign a h0 h1)
  go_enter Tryz.func179, Tryz.ntmps179
  go_wp2_with (first | (go_at_call 170; refine (double_c _ _).mono ?_; rintro e w' ⟨rfl, rfl⟩) | (go_at_call 169; refine (pattern_c _ _).mono ?_; rintro e w' ⟨rfl, rfl⟩))
  go_ret
  refine ⟨ret_int ?_, rfl⟩
  rw [hx.out]
  have hn := nan_turn a
  unfold fltW negI
  have e : max (if a < 9223372036854775808 then a + 9223372036854775808 else a - 9223372036854775808) 0 = if a < 9223372036854775808 then a + 9223372036854775808 else a - 9223372036854775808 := by split <;> omega
  rw [e, hn]
/-- does a double's whole part fit into 64 bits? -/
def fitsB (a : Int) : Bool := (Ieee.double.order a.toNat 14114281232179134464 == some .gt || Ieee.double.order a.toNat 14114281232179134464 == some .eq) && Ieee.double.order a.toNat 4890909195324358656 == some .lt
set_option maxHeartbeats 800000 in
theorem softTrunc_in (a v : Int) (hv : floatToIntVal .f64 a.toNat .i64 = some v) (hf : fitsB a = true) (w : World) :
    Calls Tryz.prog 131 #[.int .u64 a] w fun e w' => e = .returned (.tuple #[.int .i64 v, .int .i64 0]) ∧ w' = w := by
  have hc : ∀ w, (convert 189 2 (.float .f64 a.toNat)).run Tryz.prog w = .ok (.int .i64 v) w := fun w => run_convert_float_int w 189 2 .f64 .i64 a.toNat v (by rw [Tryz.underlying189]; rfl) Tryz.underlying2 hv
  unfold fitsB at hf
  rw [Bool.and_eq_true, Bool.or_eq_true] at hf
  obtain ⟨h1, h2⟩ := hf
  have h2' : FloatKind.f64.format.order a.toNat 4890909195324358656 = some .lt := eq_of_beq h2
  rcases h1 with h1 | h1
  · have h1' : FloatKind.f64.format.order a.toNat 14114281232179134464 = some .gt := eq_of_beq h1
    clear h1 h2
    go_enter Tryz.func131, Tryz.ntmps131
    go_wp2_with (go_at_call 170; refine (double_c _ _).mono ?_; rintro e w' ⟨rfl, rfl⟩)
    go_ret2
    exact ⟨rfl, rfl⟩
  · have h1' : FloatKind.f64.format.order a.toNat 14114281232179134464 = some .eq := eq_of_beq h1
    clear h1 h2
    go_enter Tryz.func131, Tryz.ntmps131
    go_wp2_with (go_at_call 170; refine (double_c _ _).mono ?_; rintro e w' ⟨rfl, rfl⟩)
    go_ret2
    exact ⟨rfl, rfl⟩
set_option maxHeartbeats 800000 in
theorem softTrunc_out (a : Int) (hf : fitsB a = false) (w : World) :
    Calls Tryz.prog 131 #[.int .u64 a] w fun e w' => e = .returned (.tuple #[.int .i64 0, .int .i64 13]) ∧ w' = w := by
  have hf' : ((FloatKind.f64.format.order a.toNat 14114281232179134464 == some .gt || FloatKind.f64.format.order a.toNat 14114281232179134464 == some .eq) && FloatKind.f64.format.order a.toNat 4890909195324358656 == some .lt) = false := hf
  cases h1 : (FloatKind.f64.format.order a.toNat 14114281232179134464 == some .gt || FloatKind.f64.format.order a.toNat 14114281232179134464 == some .eq) with
  | false =>
    have h1a : (FloatKind.f64.format.order a.toNat 14114281232179134464 == some .gt) = false := by revert h1; cases (FloatKind.f64.format.order a.toNat 14114281232179134464 == some .gt) <;> simp
    have h1b : (FloatKind.f64.format.order a.toNat 14114281232179134464 == some .eq) = false := by revert h1; cases (FloatKind.f64.format.order a.toNat 14114281232179134464 == some .eq) <;> simp
    go_enter Tryz.func131, Tryz.ntmps131
    go_wp2_with (go_at_call 170; refine (double_c _ _).mono ?_; rintro e w' ⟨rfl, rfl⟩)
    go_ret2
    exact ⟨rfl, rfl⟩
  | true =>
    have h2 : (FloatKind.f64.format.order a.toNat 4890909195324358656 == some .lt) = false := by rw [h1] at hf'; simpa using hf'
    rw [Bool.or_eq_true] at h1
    rcases h1 with h1 | h1
    · have h1' : FloatKind.f64.format.order a.toNat 14114281232179134464 = some .gt := eq_of_beq h1
      clear h1 hf hf'
      go_enter Tryz.func131, Tryz.ntmps131
      go_wp2_with (go_at_call 170; refine (double_c _ _).mono ?_; rintro e w' ⟨rfl, rfl⟩)
      go_ret2
      exact ⟨rfl, rfl⟩
    · have h1' : FloatKind.f64.format.order a.toNat 14114281232179134464 = some .eq := eq_of_beq h1
      clear h1 hf hf'
      go_enter Tryz.func131, Tryz.ntmps131
      go_wp2_with (go_at_call 170; refine (double_c _ _).mono ?_; rintro e w' ⟨rfl, rfl⟩)
      go_ret2
      exact ⟨rfl, rfl⟩
end Go.Proofs.YthgcdohndchdkaaGreatDoor.W.Nu
/- Worlds that have only grown: so many draws further, with new blocks behind the old ones. -/
namespace Go.Proofs.YthgcdohndchdkaaGreatDoor.W.Nu
open Go.ChangeShapes Go.WideShapes Go.RowKit

/-- w' is w, some draws further, with new blocks behind the old ones -/
def Gr (w w' : World) : Prop := ∃ q os, w' = Sort.grow (w.drewN q) os
theorem Gr.refl (w : World) : Gr w w := ⟨0, #[], by rw [Sort.grow_empty, World.drewN_zero]⟩
theorem Gr.of_eq {a b : World} (h : a = b) : Gr a b := h ▸ Gr.refl a
theorem Gr.trans {a b c : World} (h : Gr a b) (k : Gr b c) : Gr a c := by
  obtain ⟨q, os, rfl⟩ := h
  obtain ⟨q', os', rfl⟩ := k
  refine ⟨q + q', os ++ os', ?_⟩
  show Sort.grow (Sort.grow ((a.drewN q).drewN q') os) os' = _
  rw [Sort.grow_grow, World.drewN_drewN]
theorem Gr.alloc {a b : World} (h : Gr a b) (o : Obj) : Gr a (b.alloc o) := h.trans ⟨0, #[o], by rw [Sort.alloc_eq_grow, World.drewN_zero]⟩
theorem Gr.draw {a b : World} (h : Gr a b) (n : Nat) : Gr a (b.drewN n) := h.trans ⟨n, #[], by rw [Sort.grow_empty]⟩
theorem Gr.drew {a b : World} (h : Gr a b) : Gr a b.drew := h.draw 1
theorem Gr.of_same {a b : World} (m : Nat) (h : b = a.drewN m) : Gr a b := ⟨m, #[], by rw [h, Sort.grow_empty]⟩
theorem Gr.store {a b : World} (h : Gr a b) {p : Addr} (hp : a.heap.size ≤ p.block) (v : Value) : Gr a (b.setCell p v) := by
  obtain ⟨q, os, rfl⟩ := h
  have e := fun f => Sort.modify_append_right a.heap os p.block f (by exact hp)
  exact ⟨q, _, by unfold World.setCell Sort.grow; exact congrArg (fun h => ({ a.drewN q with heap := h } : World)) (e _)⟩
theorem Gr.size {a b : World} (h : Gr a b) : a.heap.size ≤ b.heap.size := by
  obtain ⟨q, os, rfl⟩ := h
  rw [Sort.size_grow]
  exact Nat.le_add_right _ _
theorem Gr.old {a b : World} (h : Gr a b) {k : Nat} (hk : k < a.heap.size) : b.heap[k]? = a.heap[k]? := by
  obtain ⟨q, os, rfl⟩ := h
  exact Sort.heap_grow_old _ _ (by exact hk)
theorem Gr.below {a b : World} (h : Gr a b) : Below a.heap.size a b := by
  refine ⟨?_, ?_, ?_, h.size, fun k hk => h.old hk⟩ <;> (obtain ⟨q, os, rfl⟩ := h; rfl)
theorem Gr.frozen {a b : World} (h : Gr a b) {n i : Nat} (hn : n < a.heap.size) : b.frozen? ⟨n, i, none⟩ = a.frozen? ⟨n, i, none⟩ := by
  simp only [World.frozen?, h.old hn]
theorem cell_lt {w : World} {n i : Nat} {v : Value} (h : w.cell? ⟨n, i, none⟩ = some v) : n < w.heap.size := by
  false_or_by_contra
  rename_i g
  have e : w.heap[n]? = none := Array.getElem?_eq_none (by omega)
  simp [World.cell?, e] at h
theorem Gr.cells {a b : World} (h : Gr a b) {n : Nat} {c : Array Value} (f : ∀ i, a.cell? ⟨n, i, none⟩ = c[i]?) (hc : 0 < c.size) : ∀ i, b.cell? ⟨n, i, none⟩ = c[i]? := by
  have hn : n < a.heap.size := cell_lt (i := 0) (v := c[0]) (by rw [f 0]; simp [hc])
  intro i
  rw [← f i]
  exact World.cell?_of_block (w := a) (h.old hn)
theorem Gr.of_alloc {a b : World} {o : Obj} (h : Gr (a.alloc o) b) : Gr a b := ((Gr.refl a).alloc o).trans h
theorem Gr.of_drew {a b : World} (h : Gr a.drew b) : Gr a b := (Gr.refl a).drew.trans h
theorem Gr.new {a b : World} {c : Array Value} {t : TypeId} (h : Gr (a.alloc (.cells c t)) b) (hc : 0 < c.size) : ∀ i, b.cell? ⟨a.heap.size, i, none⟩ = c[i]? :=
  h.cells (fun i => World.cell?_alloc_at c t _ i rfl) hc
theorem Gr.thaw {a b : World} (h : Gr a b) {n : Nat} {c : Array Value} (f : ∀ i, a.cell? ⟨n, i, none⟩ = c[i]?) (hc : 0 < c.size) (z : ∀ i, a.frozen? ⟨n, i, none⟩ = false) : ∀ i, b.frozen? ⟨n, i, none⟩ = false := by
  have hn : n < a.heap.size := cell_lt (i := 0) (v := c[0]) (by rw [f 0]; simp [hc])
  intro i
  rw [h.frozen hn]
  exact z i
theorem cells_alloc {w : World} {n : Nat} {c : Array Value} (o : Obj) (f : ∀ i, w.cell? ⟨n, i, none⟩ = c[i]?) (hc : 0 < c.size) : ∀ i, (w.alloc o).cell? ⟨n, i, none⟩ = c[i]? := ((Gr.refl w).alloc o).cells f hc
theorem size_alloc (w : World) (o : Obj) : (w.alloc o).heap.size = w.heap.size + 1 := by rw [Sort.alloc_eq_grow, Sort.size_grow]; rfl
theorem frozen_new (w : World) (c : Array Value) (t : TypeId) (n i : Nat) (hn : n = w.heap.size) : (w.alloc (.cells c t)).frozen? ⟨n, i, none⟩ = false := by
  rw [frozen?_alloc_cells, World.frozen?]
  have : w.heap[n]? = none := Array.getElem?_eq_none (by omega)
  rw [this]
/-- a new block -/
theorem Gr.one {w w' : World} {A : Array Value} {s : TypeId} (h : Gr (w.alloc (.cells A s)) w') (hA : 0 < A.size) :
    (∀ i, w'.cell? ⟨w.heap.size, i, none⟩ = A[i]?) ∧ (∀ i, w'.frozen? ⟨w.heap.size, i, none⟩ = false) ∧ Gr w w' :=
  ⟨h.new hA, h.thaw (fun i => World.cell?_alloc_at A s _ i rfl) hA (fun i => frozen_new w A s _ i rfl), h.of_alloc⟩
/-- two new blocks -/
theorem Gr.two {w w' : World} {A B : Array Value} {s t : TypeId} (h : Gr ((w.alloc (.cells A s)).alloc (.cells B t)) w') (hA : 0 < A.size) (hB : 0 < B.size) :
    (∀ i, w'.cell? ⟨w.heap.size, i, none⟩ = A[i]?) ∧ (∀ i, w'.cell? ⟨w.heap.size + 1, i, none⟩ = B[i]?) ∧ Gr w w' := by
  refine ⟨h.cells (cells_alloc _ (fun i => World.cell?_alloc_at A s _ i rfl) hA) hA, ?_, h.of_alloc.of_alloc⟩
  have e := h.new hB
  rwa [size_alloc] at e
/-- two new blocks, the second one to be written -/
theorem Gr.pair {w w' : World} {A R : Array Value} {s r : TypeId} (h : Gr ((w.alloc (.cells A s)).alloc (.cells R r)) w') (hA : 0 < A.size) (hR : 0 < R.size) :
    (∀ i, w'.cell? ⟨w.heap.size, i, none⟩ = A[i]?) ∧ (∀ i, w'.cell? ⟨w.heap.size + 1, i, none⟩ = R[i]?) ∧ (∀ i, w'.frozen? ⟨w.heap.size + 1, i, none⟩ = false) ∧ Gr w w' := by
  obtain ⟨f1, f2, f3⟩ := h.two hA hR
  refine ⟨f1, f2, h.thaw (fun i => World.cell?_alloc_at R r (w.heap.size + 1) i (by rw [size_alloc])) hR (fun i => frozen_new _ R r _ i (by rw [size_alloc])), f3⟩
/-- three new blocks -/
theorem Gr.three {w w' : World} {A B R : Array Value} {s t r : TypeId} (h : Gr (((w.alloc (.cells A s)).alloc (.cells B t)).alloc (.cells R r)) w') (hA : 0 < A.size) (hB : 0 < B.size) (hR : 0 < R.size) :
    (∀ i, w'.cell? ⟨w.heap.size, i, none⟩ = A[i]?) ∧ (∀ i, w'.cell? ⟨w.heap.size + 1, i, none⟩ = B[i]?) ∧ (∀ i, w'.cell? ⟨w.heap.size + 1 + 1, i, none⟩ = R[i]?) ∧ (∀ i, w'.frozen? ⟨w.heap.size + 1 + 1, i, none⟩ = false) ∧ Gr w w' := by
  obtain ⟨f1, f2, f3⟩ := h.of_alloc.two hA hB
  have e := h.new hR
  have z : ∀ i, (((w.alloc (.cells A s)).alloc (.cells B t)).alloc (.cells R r)).frozen? ⟨w.heap.size + 1 + 1, i, none⟩ = false := by
    intro i
    rw [frozen?_alloc_cells, World.frozen?]
    have : ((w.alloc (.cells A s)).alloc (.cells B t)).heap[w.heap.size + 1 + 1]? = none := Array.getElem?_eq_none (by rw [size_alloc, size_alloc]; omega)
    rw [this]
  have c := fun i => World.cell?_alloc_at (w := (w.alloc (.cells A s)).alloc (.cells B t)) R r (w.heap.size + 1 + 1) i (by rw [size_alloc, size_alloc])
  rw [size_alloc, size_alloc] at e
  exact ⟨f1, f2, e, h.thaw c hR z, f3⟩
end Go.Proofs.YthgcdohndchdkaaGreatDoor.W.Nu
/- Contracts of package num's and its reference's small functions: what they hand back, and that memory has only grown. -/
namespace Go.Proofs.YthgcdohndchdkaaGreatDoor.W.Nu
open Go.ChangeShapes Go.WideShapes Go.RowKit

/-- a number as a double's pattern -/
def bitsI (a : Bool) (i u : Int) : Int := if a = true then fromI i else u
set_option maxHeartbeats 400000 in
theorem numWhole_c (i : Int) (w : World) :
    Calls Tryz.prog 168 #[.int .i64 i] w fun e w' => e = .returned (.agg #[.bool true, .int .i64 i, .int .u64 0]) ∧ Gr w w' := by
  go_enter Tryz.func168, Tryz.ntmps168
  go_wp2
  exact bodyPost_ret (v := .agg #[.bool true, .int .i64 i, .int .u64 0]) (by simp [results, Tryz.results168, go_sem]) rfl ⟨rfl, (Gr.refl _).alloc _⟩
set_option maxHeartbeats 400000 in
theorem numDouble_c (u : Int) (w : World) :
    Calls Tryz.prog 101 #[.int .u64 u] w fun e w' => e = .returned (.agg #[.bool false, .int .i64 0, .int .u64 u]) ∧ Gr w w' := by
  go_enter Tryz.func101, Tryz.ntmps101
  go_wp2
  exact bodyPost_ret (v := .agg #[.bool false, .int .i64 0, .int .u64 u]) (by simp [results, Tryz.results101, go_sem]) rfl ⟨rfl, (Gr.refl _).alloc _⟩
set_option maxHeartbeats 400000 in
theorem refused_c (n : Int) (w : World) :
    Calls Tryz.prog 167 #[.int .i64 n] w fun e w' => e = .returned (.tuple #[.agg #[.bool false, .int .i64 0, .int .u64 0], .int .i64 n]) ∧ Gr w w' := by
  go_enter Tryz.func167, Tryz.ntmps167
  go_wp2
  exact bodyPost_ret (v := .tuple #[.agg #[.bool false, .int .i64 0, .int .u64 0], .int .i64 n]) (by simp [results, Tryz.results167, go_sem]) rfl ⟨rfl, (Gr.refl _).alloc _⟩
/-- the kinds of two operands -/
def kindI (a b : Bool) : Int := if a = true then (if b = true then 0 else 1) else if b = true then 2 else 3
set_option maxHeartbeats 400000 in
theorem kinds_c (a b : Bool) (i u j v : Int) (w : World) :
    Calls Tryz.prog 99 #[.agg #[.bool a, .int .i64 i, .int .u64 u], .agg #[.bool b, .int .i64 j, .int .u64 v]] w fun e w' => e = .returned (.int .i64 (kindI a b)) ∧ Gr w w' := by
  cases a <;> cases b
  all_goals
    go_enter Tryz.func99, Tryz.ntmps99
    go_wp2
    go_ret
    exact ⟨rfl, ((Gr.refl _).alloc _).alloc _⟩
set_option maxHeartbeats 400000 in
theorem bitsOf_c (a : Bool) (i u : Int) (w : World) :
    Calls Tryz.prog 103 #[.agg #[.bool a, .int .i64 i, .int .u64 u]] w fun e w' => e = .returned (.int .u64 (bitsI a i u)) ∧ Gr w w' := by
  cases a
  all_goals
    go_enter Tryz.func103, Tryz.ntmps103
    go_wp2_with (go_at_call 132; refine (softFromInt_c _ _).mono ?_; rintro e w' ⟨rfl, rfl⟩)
    go_ret
    exact ⟨rfl, (Gr.refl _).alloc _⟩
end Go.Proofs.YthgcdohndchdkaaGreatDoor.W.Nu
/- Plain facts on whole numbers of 64 bits: what fits, wrapped sums and products, quotients rounded down. No Go in sight but a result's parts. -/
namespace Go.Proofs.YthgcdohndchdkaaGreatDoor.W.Nu

/-- a result's parts: is it whole, the whole number, the pattern, the error -/
structure Res where
  w : Bool
  i : Int
  u : Int
  e : Int
def okW (n : Int) : Res := ⟨true, n, 0, 0⟩
def okD (u : Int) : Res := ⟨false, 0, u, 0⟩
def bad (e : Int) : Res := ⟨false, 0, 0, e⟩
/-- a whole number that fits, or the error -/
def fitR (n : Int) : Res := if -9223372036854775808 ≤ n ∧ n < 9223372036854775808 then okW n else bad 10
theorem fitR_in {n : Int} (h : -9223372036854775808 ≤ n ∧ n < 9223372036854775808) : fitR n = okW n := if_pos h
theorem fitR_out {n : Int} (h : ¬ (-9223372036854775808 ≤ n ∧ n < 9223372036854775808)) : fitR n = bad 10 := if_neg h

/-- the greatest whole number that is not above the quotient -/
def flI (a b : Int) : Int := if 0 < b then a / b else (-a) / (-b)
/-- what it leaves -/
def mdI (a b : Int) : Int := a - b * flI a b
theorem flI_spec (a b : Int) (hb : b ≠ 0) : (0 < b → b * flI a b ≤ a ∧ a < b * flI a b + b) ∧ (b < 0 → a ≤ b * flI a b ∧ b * flI a b + b < a) := by
  unfold flI
  constructor
  · intro h
    rw [if_pos h]
    have h1 := Int.mul_ediv_add_emod a b
    have h2 := Int.emod_nonneg a hb
    have h3 := Int.emod_lt_of_pos a h
    omega
  · intro h
    rw [if_neg (by omega)]
    have h1 := Int.mul_ediv_add_emod (-a) (-b)
    have h2 := Int.emod_nonneg (-a) (b := -b) (by omega)
    have h3 := Int.emod_lt_of_pos (-a) (b := -b) (by omega)
    rw [Int.neg_mul] at h1
    omega
theorem mul_gap {b x y : Int} (hb : 0 < b) (h : b * x < b * y + b) : x ≤ y := by
  have : b * x < b * (y + 1) := by rw [Int.mul_add]; omega
  have := Int.lt_of_mul_lt_mul_left this (by omega)
  omega
theorem flI_unique (a b q : Int) (hb : b ≠ 0) (h1 : 0 < b → b * q ≤ a ∧ a < b * q + b) (h2 : b < 0 → a ≤ b * q ∧ b * q + b < a) : q = flI a b := by
  obtain ⟨s1, s2⟩ := flI_spec a b hb
  by_cases h : 0 < b
  · have := h1 h
    have := s1 h
    have g1 := mul_gap h (x := q) (y := flI a b) (by omega)
    have g2 := mul_gap h (x := flI a b) (y := q) (by omega)
    omega
  · have hn : b < 0 := by omega
    have := h2 hn
    have := s2 hn
    have g1 := mul_gap (b := -b) (by omega) (x := q) (y := flI a b) (by rw [Int.neg_mul, Int.neg_mul]; omega)
    have g2 := mul_gap (b := -b) (by omega) (x := flI a b) (y := q) (by rw [Int.neg_mul, Int.neg_mul]; omega)
    omega
/-- Go's quotient and rest -/
theorem tdiv_spec (a b : Int) (hb : b ≠ 0) : b * a.tdiv b + a.tmod b = a ∧ (0 < b → -b < a.tmod b ∧ a.tmod b < b) ∧ (b < 0 → b < a.tmod b ∧ a.tmod b < -b) ∧ (0 ≤ a → 0 ≤ a.tmod b) ∧ (a ≤ 0 → a.tmod b ≤ 0) := by
  have h1 := Int.mul_tdiv_add_tmod a b
  have h2 : (a.tmod b).natAbs < b.natAbs := by rw [Int.natAbs_tmod]; exact Nat.mod_lt _ (by omega)
  refine ⟨h1, fun _ => by omega, fun _ => by omega, fun h => Int.tmod_nonneg b h, fun h => ?_⟩
  have : 0 ≤ (-a).tmod b := Int.tmod_nonneg b (by omega)
  rw [Int.neg_tmod] at this
  omega
/-- Go's quotient, mended where the signs differ and a rest is left -/
theorem fl_tdiv (a b : Int) (hb : b ≠ 0) :
    (a.tmod b ≠ 0 → ((a < 0) ↔ ¬ b < 0) → a.tdiv b - 1 = flI a b ∧ a.tmod b + b = mdI a b) ∧ ((a.tmod b = 0 ∨ ((a < 0) ↔ (b < 0))) → a.tdiv b = flI a b ∧ a.tmod b = mdI a b) := by
  obtain ⟨h1, h2, h3, h4, h5⟩ := tdiv_spec a b hb
  constructor
  · intro g1 g2
    have e : a.tdiv b - 1 = flI a b := by
      apply flI_unique a b _ hb <;> intro hs <;> rw [Int.mul_sub]
      · have := h2 hs; have := h5 (by omega); omega
      · have := h3 hs; have := h4 (by omega); omega
    refine ⟨e, ?_⟩
    unfold mdI
    rw [← e, Int.mul_sub]; omega
  · intro g
    have e : a.tdiv b = flI a b := by
      apply flI_unique a b _ hb <;> intro hs
      · have := h2 hs
        have : 0 ≤ a.tmod b := by rcases g with g | g; · omega
                                  · exact h4 (by omega)
        omega
      · have := h3 hs
        have : a.tmod b ≤ 0 := by rcases g with g | g; · omega
                                  · exact h5 (by omega)
        omega
    refine ⟨e, ?_⟩
    unfold mdI
    rw [← e]; omega

/-! ### sizes and signs -/
def sizeI (i : Int) : Int := if i < 0 then -i else i
def fr (a b : Int) : Int := if ((decide (a < 0) != decide (b < 0)) && (sizeI a % sizeI b != 0)) = true then sizeI b - sizeI a % sizeI b else sizeI a % sizeI b
theorem sizeI_pos {b : Int} (hb : b ≠ 0) : 0 < sizeI b := by unfold sizeI; split <;> omega
/-- a product of sizes is the product's size -/
theorem size_mul (a b : Int) : sizeI a * sizeI b = (if (decide (a < 0) != decide (b < 0)) = true then -(a * b) else a * b) := by
  unfold sizeI
  by_cases h1 : a < 0 <;> by_cases h2 : b < 0 <;> simp [h1, h2, Int.neg_mul, Int.mul_neg]
theorem sign_mul (a b : Int) (ha : a ≠ 0) (hb : b ≠ 0) : (a * b < 0 ↔ (decide (a < 0) != decide (b < 0)) = true) ∧ a * b ≠ 0 := by
  have hne : a * b ≠ 0 := Int.mul_ne_zero ha hb
  refine ⟨?_, hne⟩
  have h := size_mul a b
  have h0 : 0 < sizeI a * sizeI b := Int.mul_pos (sizeI_pos ha) (sizeI_pos hb)
  rw [h] at h0
  split at h0
  · rename_i g; exact ⟨fun _ => g, fun _ => by omega⟩
  · rename_i g; exact ⟨fun h => by omega, fun h => absurd h g⟩

/-! ### wrapped -/
theorem wrap_cases (n : Int) : ∃ k : Int, IntKind.i64.wrap n = n + k * 18446744073709551616 ∧ -9223372036854775808 ≤ IntKind.i64.wrap n ∧ IntKind.i64.wrap n < 9223372036854775808 := by
  rw [IntKind.wrap_i64]
  refine ⟨-((n + 9223372036854775808) / 18446744073709551616), by omega, by omega, by omega⟩
theorem wrap_in {n : Int} (h : -9223372036854775808 ≤ n ∧ n < 9223372036854775808) : IntKind.i64.wrap n = n := by
  obtain ⟨k, h1, h2, h3⟩ := wrap_cases n
  omega
/-- a wrapped product that divides back to the factor, with the right sign, is the product -/
theorem mul_back (a b p : Int) (ha : a ≠ 0) (hb : b ≠ 0) (b0 : -9223372036854775808 ≤ b) (b1 : b < 9223372036854775808) (hp : IntKind.i64.wrap (a * b) = p)
    (hs : (decide (p < 0) != (decide (a < 0) != decide (b < 0))) = false) (hq : IntKind.i64.wrap (p.tdiv b) = a) : p = a * b := by
  obtain ⟨k, h1, h2, h3⟩ := wrap_cases (a * b)
  rw [hp] at h1 h2 h3
  obtain ⟨s1, s2⟩ := sign_mul a b ha hb
  obtain ⟨t1, t2, t3, t4, t5⟩ := tdiv_spec p b hb
  by_cases he : p = -9223372036854775808 ∧ b = -1
  · obtain ⟨rfl, rfl⟩ := he
    have e : (-9223372036854775808 : Int).tdiv (-1) = 9223372036854775808 := by decide
    rw [e] at hq
    have e2 : IntKind.i64.wrap 9223372036854775808 = -9223372036854775808 := by decide
    rw [e2] at hq
    subst hq
    revert hs; decide
  · have hr : -9223372036854775808 ≤ p.tdiv b ∧ p.tdiv b < 9223372036854775808 := by
      have hn : (p.tdiv b).natAbs = p.natAbs / b.natAbs := Int.natAbs_tdiv p b
      have hl : p.natAbs / b.natAbs ≤ p.natAbs := Nat.div_le_self _ _
      by_cases hm : p = -9223372036854775808
      · have : b ≠ -1 := fun h => he ⟨hm, h⟩
        by_cases h1' : b = 1
        · subst h1'; rw [Int.tdiv_one]; omega
        · have : 2 ≤ b.natAbs := by omega
          have : p.natAbs / b.natAbs ≤ p.natAbs / 2 := Nat.div_le_div_left this (by omega)
          omega
      · omega
    rw [wrap_in hr] at hq
    rw [hq, Int.mul_comm] at t1
    omega
theorem mul_in (a b : Int) (ha : a ≠ 0) (hb : b ≠ 0) (a0 : -9223372036854775808 ≤ a) (a1 : a < 9223372036854775808) :
    (decide (a * b < 0) != (decide (a < 0) != decide (b < 0))) = false ∧ IntKind.i64.wrap ((a * b).tdiv b) = a := by
  obtain ⟨s1, s2⟩ := sign_mul a b ha hb
  refine ⟨?_, ?_⟩
  · cases h : (decide (a < 0) != decide (b < 0)) with
    | true => rw [decide_eq_true (s1.2 h)]; rfl
    | false => rw [decide_eq_false (fun g => by rw [s1.1 g] at h; cases h)]; rfl
  · rw [Int.mul_tdiv_cancel _ hb]
    exact wrap_in ⟨a0, a1⟩
end Go.Proofs.YthgcdohndchdkaaGreatDoor.W.Nu
