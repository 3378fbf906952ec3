/- Contracts of the small functions of package word and of its reference: what each returns, at every argument of its kind, with the world as it was. -/
import Derived.Test.YtalcfblknoojpaaProg
import Derived.Test.YtalcfblknoojpaaPlain
import Derived.WalkKit
import Derived.WalkLawsBesides
import Derived.Deep.QuietTactic
import Derived.BigQuiet
namespace Go.Proofs.Ytalcfblknoojpaa.W
open Go.ChangeShapes Go.WideShapes Go.RowKit

theorem ret_bool {a b : Bool} (h : a = b) : Ending.returned (.bool a) = .returned (.bool b) := by rw [h]
theorem ret_int {k : IntKind} {a b : Int} (h : a = b) : Ending.returned (.int k a) = .returned (.int k b) := by rw [h]
theorem ret_pair {v v' u u' : Value} (h : v = v') (g : u = u') : Ending.returned (.tuple #[v, u]) = .returned (.tuple #[v', u']) := by rw [h, g]
theorem ret_ib {k : IntKind} {a a' : Int} {b b' : Bool} (h : a = a') (g : b = b') : Ending.returned (.tuple #[.int k a, .bool b]) = .returned (.tuple #[.int k a', .bool b']) := by rw [h, g]
theorem ret_bb {a a' : Bool} {b b' : Bool} (h : a = a') (g : b = b') : Ending.returned (.tuple #[.bool a, .bool b]) = .returned (.tuple #[.bool a', .bool b']) := by rw [h, g]
theorem ret_sb {a a' : ByteArray} {b b' : Bool} (h : a = a') (g : b = b') : Ending.returned (.tuple #[.string a, .bool b]) = .returned (.tuple #[.string a', .bool b']) := by rw [h, g]
theorem int_eq {k : IntKind} {a b : Int} (h : a = b) : Value.int k a = Value.int k b := by rw [h]
theorem hid {p : Prop} (h : p) : Hid p := h

set_option maxHeartbeats 400000 in
theorem isNaN_c (n : Int) (h0 : 0 ≤ n) (h1 : n < 18446744073709551616) (w : World) :
    Calls Try.prog 21 #[.int .u64 n] w fun e w' => e = .returned (.bool (nanB n)) ∧ w' = w := by
  go_enter Try.func21, Try.ntmps21
  go_wp2
  go_ret
  exact ⟨ret_bool (by rw [nan_eq n h0 h1]; rfl), rfl⟩
set_option maxHeartbeats 400000 in
theorem isTagged_c (n : Int) (h0 : 0 ≤ n) (h1 : n < 18446744073709551616) (w : World) :
    Calls Try.prog 22 #[.int .u64 n] w fun e w' => e = .returned (.bool (decide (18444492273895866368 ≤ n))) ∧ w' = w := by
  go_enter Try.func22, Try.ntmps22
  go_wp2
  go_ret
  exact ⟨ret_bool (tagged_eq n h0 h1), rfl⟩
set_option maxHeartbeats 400000 in
theorem tagOf_c (n : Int) (h0 : 0 ≤ n) (h1 : n < 18446744073709551616) (w : World) :
    Calls Try.prog 23 #[.int .u64 n] w fun e w' => e = .returned (.int .u64 (n / 281474976710656 % 8)) ∧ w' = w := by
  go_enter Try.func23, Try.ntmps23
  go_wp2
  go_ret
  exact ⟨ret_int (tag_eq n h0 h1), rfl⟩
set_option maxHeartbeats 400000 in
theorem loadOf_c (n : Int) (h0 : 0 ≤ n) (h1 : n < 18446744073709551616) (w : World) :
    Calls Try.prog 25 #[.int .u64 n] w fun e w' => e = .returned (.int .u64 (n % 281474976710656)) ∧ w' = w := by
  go_enter Try.func25, Try.ntmps25
  go_wp2
  go_ret
  exact ⟨ret_int (load_eq n h0 h1), rfl⟩
set_option maxHeartbeats 400000 in
theorem split_c (n : Int) (h0 : 0 ≤ n) (h1 : n < 18446744073709551616) (w : World) :
    Calls Try.prog 27 #[.int .u64 n] w fun e w' => e = .returned (.tuple #[.int .u64 (n / 1099511627776), .int .u64 (n % 1099511627776)]) ∧ w' = w := by
  go_enter Try.func27, Try.ntmps27
  go_wp2
  go_ret2
  exact ⟨ret_pair rfl (int_eq (room_eq n h0 h1)), rfl⟩
set_option maxHeartbeats 400000 in
theorem plain_c (n : Int) (w : World) :
    Calls Try.prog 24 #[.int .u64 n] w fun e w' => e = .returned (.int .i64 (plainCls n)) ∧ w' = w := by
  have P0 : Hid (n = 0 → plainCls n = 3) := by intro h; simp [plainCls, h]
  have P1 : Hid (n = 1 ∨ n = 2 → plainCls n = 4) := by intro h; rcases h with h | h <;> simp [plainCls, h]
  have P3 : Hid (n ≠ 0 → n ≠ 1 → n ≠ 2 → plainCls n = 7) := by intro a b c; simp [plainCls, a, b, c]
  go_enter Try.func24, Try.ntmps24
  go_wp2
  all_goals go_ret
  · exact ⟨ret_int (P0.out (by simp_all)).symm, rfl⟩
  · exact ⟨ret_int (P1.out (by simp_all)).symm, rfl⟩
  · exact ⟨ret_int (P1.out (by simp_all)).symm, rfl⟩
  · exact ⟨ret_int (P3.out (by simp_all) (by simp_all) (by simp_all)).symm, rfl⟩
theorem nan_ref1 (n : Int) (h : n / 4503599627370496 % 2048 = 2047) : (n % 4503599627370496 != 0) = nanB n := by
  unfold nanB
  rw [Bool.eq_iff_iff]
  simp only [bne_iff_ne, ne_eq, decide_eq_true_eq]
  omega
theorem nan_ref2 (n : Int) (h : ¬ n / 4503599627370496 % 2048 = 2047) : false = nanB n := by
  unfold nanB
  rw [Bool.eq_iff_iff]
  simp only [Bool.false_eq_true, decide_eq_true_eq, false_iff]
  omega
theorem pow_step (j k : Nat) (h : k < 64) (hj : j < k) : IntKind.u64.wrap (2 * 2 ^ j) = (2 : Int) ^ (j + 1) := by
  have e : (2 : Int) ^ (j + 1) = 2 * 2 ^ j := by rw [Int.pow_succ]; omega
  have l : (2 : Nat) ^ (j + 1) ≤ 2 ^ 63 := Nat.pow_le_pow_right (by decide) (by omega)
  have c : ((2 ^ (j + 1) : Nat) : Int) = (2 : Int) ^ (j + 1) := by simp
  rw [← e, ← c, IntKind.wrap_u64]
  have p : (2 : Nat) ^ 63 = 9223372036854775808 := by decide
  exact Int.emod_eq_of_lt (Int.natCast_nonneg _) (by omega)
end Go.Proofs.Ytalcfblknoojpaa.W
