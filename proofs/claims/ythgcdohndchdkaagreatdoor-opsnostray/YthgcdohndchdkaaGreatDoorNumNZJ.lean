import Derived.Test.YthgcdohndchdkaaGreatDoorBase3
/- Contracts of package num: the sign turned. -/
namespace Go.Proofs.YthgcdohndchdkaaGreatDoor.W.Nu
open Go.ChangeShapes Go.WideShapes Go.RowKit
/-- what Neg answers -/
def negR (a : Bool) (i u : Int) : Res := if a = true then fitR (-i) else okD (negI u)
set_option maxHeartbeats 1000000 in
theorem numNeg_double (i u : Int) (u0 : 0 ≤ u) (u1 : u < 18446744073709551616) (w : World) :
    Calls Tryz.prog 129 #[.agg #[.bool false, .int .i64 i, .int .u64 u]] w fun e w' => e = .returned (.tuple #[.agg #[.bool false, .int .i64 0, .int .u64 (negI u)], .int .i64 0]) ∧ Gr w w' := by
  go_enter Tryz.func129, Tryz.ntmps129
  go_wp2_with (first | (go_at_call 179; refine (softNeg_c _ (by omega) (by omega) _).mono ?_; rintro e w' ⟨rfl, rfl⟩) | (go_at_call 101; refine (numDouble_c _ _).mono ?_; rintro e w' ⟨rfl, hg⟩; obtain ⟨fA, fR, fz, hG⟩ := hg.pair (Nat.zero_lt_succ _) (Nat.zero_lt_succ _); clear hg))
  exact bodyPost_ret (v := .tuple #[.agg #[.bool false, .int .i64 0, .int .u64 (negI u)], .int .i64 0]) (by simp [results, Tryz.results129, go_sem, fR]) rfl ⟨rfl, ((hG.store (Nat.le_succ _) _).store (Nat.le_succ _) _).store (Nat.le_succ _) _⟩
set_option maxHeartbeats 1000000 in
theorem numNeg_least (u : Int) (w : World) :
    Calls Tryz.prog 129 #[.agg #[.bool true, .int .i64 (-9223372036854775808), .int .u64 u]] w fun e w' => e = .returned (.tuple #[.agg #[.bool false, .int .i64 0, .int .u64 0], .int .i64 10]) ∧ Gr w w' := by
  go_enter Tryz.func129, Tryz.ntmps129
  go_wp2_with (go_at_call 167; refine (refused_c _ _).mono ?_; rintro e w' ⟨rfl, hg⟩; obtain ⟨fA, fR, fz, hG⟩ := hg.pair (Nat.zero_lt_succ _) (Nat.zero_lt_succ _); clear hg)
  exact bodyPost_ret (v := .tuple #[.agg #[.bool false, .int .i64 0, .int .u64 0], .int .i64 10]) (by simp [results, Tryz.results129, go_sem, fR]) rfl ⟨rfl, ((hG.store (Nat.le_succ _) _).store (Nat.le_succ _) _).store (Nat.le_succ _) _⟩
set_option maxHeartbeats 1000000 in
theorem numNeg_whole (i u n : Int) (hl : (i == -9223372036854775808) = false) (hn : IntKind.i64.wrap (-i) = n) (w : World) :
    Calls Tryz.prog 129 #[.agg #[.bool true, .int .i64 i, .int .u64 u]] w fun e w' => e = .returned (.tuple #[.agg #[.bool true, .int .i64 n, .int .u64 0], .int .i64 0]) ∧ Gr w w' := by
  go_enter Tryz.func129, Tryz.ntmps129
  go_wp2_with (go_at_call 168; refine (numWhole_c _ _).mono ?_; rintro e w' ⟨rfl, hg⟩; obtain ⟨fA, fR, fz, hG⟩ := hg.pair (Nat.zero_lt_succ _) (Nat.zero_lt_succ _); clear hg)
  exact bodyPost_ret (v := .tuple #[.agg #[.bool true, .int .i64 n, .int .u64 0], .int .i64 0]) (by simp [results, Tryz.results129, go_sem, fR]) rfl ⟨rfl, ((hG.store (Nat.le_succ _) _).store (Nat.le_succ _) _).store (Nat.le_succ _) _⟩
theorem numNeg_c (a : Bool) (i u : Int) (i0 : -9223372036854775808 ≤ i) (i1 : i < 9223372036854775808) (u0 : 0 ≤ u) (u1 : u < 18446744073709551616) (w : World) :
    Calls Tryz.prog 129 #[.agg #[.bool a, .int .i64 i, .int .u64 u]] w fun e w' => e = .returned (resV (negR a i u)) ∧ Gr w w' := by
  unfold negR
  cases a with
  | false => exact numNeg_double i u u0 u1 w
  | true =>
    rw [if_pos rfl]
    by_cases h : i = -9223372036854775808
    · subst h
      rw [fitR_out (by decide)]
      exact numNeg_least u w
    · rw [fitR_in (by omega)]
      exact numNeg_whole i u (-i) (by simpa using h) (wrap_in (by omega)) w
end Go.Proofs.YthgcdohndchdkaaGreatDoor.W.Nu
