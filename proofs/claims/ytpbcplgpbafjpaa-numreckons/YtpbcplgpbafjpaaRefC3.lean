/- Contracts of the reference of package num on whole numbers: sizes and signs, sums, differences, products, quotients rounded down, rests. -/
import Derived.Test.YtpbcplgpbafjpaaRefB3
import Derived.Test.YtpbcplgpbafjpaaNumN
import Derived.Test.YtpbcplgpbafjpaaNumO
namespace Go.Proofs.Ytpbcplgpbafjpaa.W
open Go.ChangeShapes Go.WideShapes Go.RowKit

theorem size_neg (i : Int) (h : i < 0) (i0 : -9223372036854775808 ≤ i) : IntKind.i64.wrap (i + 1) = i + 1 ∧ IntKind.i64.wrap (-(i + 1)) = -(i + 1) ∧ IntKind.u64.wrap (-(i + 1)) = -(i + 1) ∧ IntKind.u64.wrap (-(i + 1) + 1) = -i := by
  refine ⟨wrap_in (by omega), wrap_in (by omega), ?_, ?_⟩
  · rw [IntKind.wrap_u64]; omega
  · rw [IntKind.wrap_u64]; omega
set_option maxHeartbeats 400000 in
theorem size_c (i : Int) (i0 : -9223372036854775808 ≤ i) (i1 : i < 9223372036854775808) (w : World) :
    Calls Try.prog 51 #[.int .i64 i] w fun e w' => e = .returned (.int .u64 (sizeI i)) ∧ w' = w := by
  by_cases h : i < 0
  · obtain ⟨s1, s2, s3, s4⟩ := size_neg i h i0
    have e : sizeI i = -i := if_pos h
    rw [e]
    clear e
    go_enter Try.func51, Try.ntmps51
    go_wp2
    go_ret
    exact ⟨rfl, rfl⟩
  · have e : sizeI i = i := if_neg h
    have s1 : IntKind.u64.wrap i = i := by rw [IntKind.wrap_u64]; omega
    rw [e]
    clear e
    go_enter Try.func51, Try.ntmps51
    go_wp2
    go_ret
    exact ⟨rfl, rfl⟩
theorem w64_eq (n : Int) : wrap64 n = IntKind.i64.wrap n := by rw [IntKind.wrap_i64, wrap64]
/-- a size with a sign -/
def signV (n : Int) (m : Bool) : Int := if m = true then (if 9223372036854775808 < n then 0 else -n) else IntKind.i64.wrap n
def signOK (n : Int) (m : Bool) : Bool := if m = true then !decide (9223372036854775808 < n) else decide (n ≤ 9223372036854775807)
set_option maxHeartbeats 400000 in
theorem signed_c (n : Int) (m : Bool) (n0 : 0 ≤ n) (n1 : n < 18446744073709551616) (w : World) :
    Calls Try.prog 52 #[.int .u64 n, .bool m] w fun e w' => e = .returned (.tuple #[.int .i64 (signV n m), .bool (signOK n m)]) ∧ w' = w := by
  cases m with
  | true =>
    by_cases h : 9223372036854775808 < n
    · have e1 : signV n true = 0 := by unfold signV; rw [if_pos rfl, if_pos h]
      have e2 : signOK n true = false := by unfold signOK; rw [if_pos rfl, decide_eq_true h]; rfl
      rw [e1, e2]
      clear e1 e2
      go_enter Try.func52, Try.ntmps52
      go_wp2
      go_ret2
      exact ⟨rfl, rfl⟩
    · have e1 : signV n true = -n := by unfold signV; rw [if_pos rfl, if_neg h]
      have e2 : signOK n true = true := by unfold signOK; rw [if_pos rfl, decide_eq_false h]; rfl
      rw [e1, e2]
      clear e1 e2
      by_cases hz : n = 0
      · subst hz
        go_enter Try.func52, Try.ntmps52
        go_wp2
        go_ret2
        exact ⟨rfl, rfl⟩
      · have hz' : (n == 0) = false := by simpa using hz
        have s1 : IntKind.u64.wrap (n - 1) = n - 1 := by rw [IntKind.wrap_u64]; omega
        have s2 : IntKind.i64.wrap (n - 1) = n - 1 := wrap_in (by omega)
        have s3 : IntKind.i64.wrap (-(n - 1)) = -(n - 1) := wrap_in (by omega)
        have s4 : IntKind.i64.wrap (-(n - 1) - 1) = -n := by rw [wrap_in (by omega)]; omega
        go_enter Try.func52, Try.ntmps52
        go_wp2
        go_ret2
        exact ⟨rfl, rfl⟩
  | false =>
    have e1 : signV n false = IntKind.i64.wrap n := rfl
    have e2 : signOK n false = decide (n ≤ 9223372036854775807) := rfl
    rw [e1, e2]
    clear e1 e2
    go_enter Try.func52, Try.ntmps52
    go_wp2
    go_ret2
    refine ⟨?_, rfl⟩
    rw [← w64_eq]
    rfl
set_option maxHeartbeats 2000000 in
theorem floors_core (a b x y q0 r0 q1 r1 q r : Int) (m : Bool) (hy : ¬ y = 0) (hq : IntKind.u64.wrap (x.tdiv y) = q0) (hr : x.tmod y = r0) (hq1 : IntKind.u64.wrap (q0 + 1) = q1) (hr1 : IntKind.u64.wrap (y - r0) = r1) (x0 : 0 ≤ r0) (x1 : r0 < 18446744073709551616) (y0 : 0 ≤ r1) (y1 : r1 < 18446744073709551616) (w : World)
    (hC : (a < 0 ∧ ¬ b < 0 ∧ (r0 != 0) = true ∧ q = q1 ∧ r = r1 ∧ m = true) ∨ (¬ a < 0 ∧ b < 0 ∧ (r0 != 0) = true ∧ q = q1 ∧ r = r1 ∧ m = true) ∨ (a < 0 ∧ ¬ b < 0 ∧ r0 = 0 ∧ q = q0 ∧ r = 0 ∧ m = true) ∨ (¬ a < 0 ∧ b < 0 ∧ r0 = 0 ∧ q = q0 ∧ r = 0 ∧ m = true) ∨ (a < 0 ∧ b < 0 ∧ q = q0 ∧ r = r0 ∧ m = false) ∨ (¬ a < 0 ∧ ¬ b < 0 ∧ q = q0 ∧ r = r0 ∧ m = false))
    (c1 : ∀ w, Calls Try.prog 51 #[.int .i64 a] w fun e w' => e = .returned (.int .u64 x) ∧ w' = w)
    (c2 : ∀ w, Calls Try.prog 51 #[.int .i64 b] w fun e w' => e = .returned (.int .u64 y) ∧ w' = w) :
    Calls Try.prog 63 #[.int .i64 a, .int .i64 b] w fun e w' => e = .returned (.tuple #[.int .u64 q, .bool m, .int .i64 (signV r (decide (b < 0)))]) ∧ Gr w w' := by
  rcases hC with ⟨h1, h2, h3, rfl, rfl, rfl⟩ | ⟨h1, h2, h3, rfl, rfl, rfl⟩ | ⟨h1, h2, h3, rfl, rfl, rfl⟩ | ⟨h1, h2, h3, rfl, rfl, rfl⟩ | ⟨h1, h2, rfl, rfl, rfl⟩ | ⟨h1, h2, rfl, rfl, rfl⟩
  all_goals
    first | (have H1 : decide (a < 0) = true := decide_eq_true h1) | (have H1 : decide (a < 0) = false := decide_eq_false h1)
    first | (have H2 : decide (b < 0) = true := decide_eq_true h2) | (have H2 : decide (b < 0) = false := decide_eq_false h2)
    have K2 := hid H2
    clear h1 h2
    go_enter Try.func63, Try.ntmps63
    go_wp2_with (first | (go_at_call 51; with_reducible refine (c1 _).mono ?_; rintro e w' ⟨rfl, rfl⟩) | (go_at_call 51; with_reducible refine (c2 _).mono ?_; rintro e w' ⟨rfl, rfl⟩))
    go_quiet (fail)
    go_wp2_with (go_at_call 52; refine (signed_c _ _ (by omega) (by omega) _).mono ?_; rintro e w' ⟨rfl, rfl⟩)
    go_ret3
    refine ⟨?_, (Gr.refl _).draw _⟩
    first | rfl | (rw [K2.out]; rfl)
theorem floors_c (a b : Int) (a0 : -9223372036854775808 ≤ a) (a1 : a < 9223372036854775808) (b0 : -9223372036854775808 ≤ b) (b1 : b < 9223372036854775808) (hb : b ≠ 0) (w : World) :
    Calls Try.prog 63 #[.int .i64 a, .int .i64 b] w fun e w' => e = .returned (.tuple #[.int .u64 (fq a b), .bool (decide (a < 0) != decide (b < 0)), .int .i64 (mdI a b)]) ∧ Gr w w' := by
  obtain ⟨s1, s2⟩ := sizeI_range a0 a1
  obtain ⟨s3, s4⟩ := sizeI_range b0 b1
  have s5 := sizeI_pos hb
  have r0 := Int.emod_nonneg (sizeI a) (b := sizeI b) (by omega)
  have r1 := Int.emod_lt_of_pos (sizeI a) s5
  have q0 : 0 ≤ sizeI a / sizeI b := Int.ediv_nonneg s1 (by omega)
  have q1 : sizeI a / sizeI b ≤ sizeI a := Int.ediv_le_self _ s1
  have e1 : (sizeI a).tdiv (sizeI b) = sizeI a / sizeI b := Int.tdiv_eq_ediv_of_nonneg s1
  have e2 : (sizeI a).tmod (sizeI b) = sizeI a % sizeI b := Int.tmod_eq_emod_of_nonneg s1
  have u : ∀ n : Int, 0 ≤ n → n < 18446744073709551616 → IntKind.u64.wrap n = n := fun n h h' => by rw [IntKind.wrap_u64]; omega
  have em : mdI a b = signV (fr a b) (decide (b < 0)) := by
    rw [(sizes a b hb).2]
    obtain ⟨f1, f2⟩ := fr_range (a := a) hb
    unfold signV
    by_cases h : b < 0
    · rw [if_pos h, if_pos (decide_eq_true h), if_neg (by omega)]
    · have eb : sizeI b = b := if_neg h
      rw [if_neg h, if_neg (by simpa using h), wrap_in (by omega)]
  rw [em]
  refine floors_core a b (sizeI a) (sizeI b) (sizeI a / sizeI b) (sizeI a % sizeI b) (sizeI a / sizeI b + 1) (sizeI b - sizeI a % sizeI b) (fq a b) (fr a b) _ (by omega) (by rw [e1]; exact u _ (by omega) (by omega)) e2 (u _ (by omega) (by omega)) (u _ (by omega) (by omega)) (by omega) (by omega) (by omega) (by omega) w ?_ (size_c a a0 a1) (size_c b b0 b1)
  unfold fq fr
  by_cases h1 : a < 0 <;> by_cases h2 : b < 0
  · exact Or.inr (Or.inr (Or.inr (Or.inr (Or.inl ⟨h1, h2, by simp [h1, h2], by simp [h1, h2], by simp [h1, h2]⟩))))
  · by_cases h3 : sizeI a % sizeI b = 0
    · exact Or.inr (Or.inr (Or.inl ⟨h1, h2, h3, by simp [h3], by simp [h3], by simp [h1, h2]⟩))
    · exact Or.inl ⟨h1, h2, by simpa using h3, by simp [h1, h2, h3], by simp [h1, h2, h3], by simp [h1, h2]⟩
  · by_cases h3 : sizeI a % sizeI b = 0
    · exact Or.inr (Or.inr (Or.inr (Or.inl ⟨h1, h2, h3, by simp [h3], by simp [h3], by simp [h1, h2]⟩)))
    · exact Or.inr (Or.inl ⟨h1, h2, by simpa using h3, by simp [h1, h2, h3], by simp [h1, h2, h3], by simp [h1, h2]⟩)
  · exact Or.inr (Or.inr (Or.inr (Or.inr (Or.inr ⟨h1, h2, by simp [h1, h2], by simp [h1, h2], by simp [h1, h2]⟩))))
theorem sign_fit (n : Int) (m : Bool) (n0 : 0 ≤ n) (n1 : n < 18446744073709551616) : (signOK n m = true → fitR (if m = true then -n else n) = okW (signV n m)) ∧ (signOK n m = false → fitR (if m = true then -n else n) = bad 10) := by
  unfold signOK signV
  cases m with
  | true =>
    simp only [if_true]
    by_cases h : 9223372036854775808 < n
    · rw [decide_eq_true h]
      exact ⟨(fun g => by cases g), fun _ => fitR_out (by omega)⟩
    · rw [decide_eq_false h, if_neg h]
      exact ⟨fun _ => fitR_in (by omega), fun g => by cases g⟩
  | false =>
    simp only [Bool.false_eq_true, if_false]
    by_cases h : n ≤ 9223372036854775807
    · rw [decide_eq_true h, wrap_in (by omega)]
      exact ⟨fun _ => fitR_in (by omega), fun g => by cases g⟩
    · rw [decide_eq_false h]
      exact ⟨(fun g => by cases g), fun _ => fitR_out (by omega)⟩
set_option linter.unusedVariables false in
set_option maxHeartbeats 2000000 in
theorem refAdd_over (i u j v m l : Int) (hm : IntKind.i64.wrap (9223372036854775807 - j) = m) (hl : IntKind.i64.wrap (-9223372036854775808 - j) = l) (hC : (0 < j ∧ m < i) ∨ (¬ 0 < j ∧ j < 0 ∧ i < l)) (w : World) :
    Calls Try.prog 10 #[.agg #[.bool true, .int .i64 i, .int .u64 u], .agg #[.bool true, .int .i64 j, .int .u64 v]] w fun e w' => e = .returned (.tuple #[.agg #[.bool false, .int .i64 0, .int .u64 0], .int .i64 10]) ∧ Gr w w' := by
  rcases hC with ⟨h1, h2⟩ | ⟨h1, h2, h3⟩
  all_goals
    go_enter Try.func10, Try.ntmps10
    go_wp2
    exact bodyPost_ret (v := .tuple #[.agg #[.bool false, .int .i64 0, .int .u64 0], .int .i64 10]) (by simp [results, Try.results10, go_sem]) rfl ⟨rfl, (((Gr.refl _).alloc _).alloc _).alloc _⟩
set_option linter.unusedVariables false in
set_option maxHeartbeats 2000000 in
theorem refAdd_ok (i u j v m l s : Int) (hm : IntKind.i64.wrap (9223372036854775807 - j) = m) (hl : IntKind.i64.wrap (-9223372036854775808 - j) = l) (hs : IntKind.i64.wrap (i + j) = s) (hC : (0 < j ∧ ¬ m < i ∧ ¬ j < 0) ∨ (¬ 0 < j ∧ j < 0 ∧ ¬ i < l) ∨ (¬ 0 < j ∧ ¬ j < 0)) (w : World) :
    Calls Try.prog 10 #[.agg #[.bool true, .int .i64 i, .int .u64 u], .agg #[.bool true, .int .i64 j, .int .u64 v]] w fun e w' => e = .returned (.tuple #[.agg #[.bool true, .int .i64 s, .int .u64 0], .int .i64 0]) ∧ Gr w w' := by
  rcases hC with ⟨h1, h2, h3⟩ | ⟨h1, h2, h3⟩ | ⟨h1, h2⟩
  all_goals
    go_enter Try.func10, Try.ntmps10
    go_wp2_with (go_at_call 44; refine (refWhole_c _ _).mono ?_; rintro e w' ⟨rfl, hg⟩; obtain ⟨fA, fB, fR, fz, hG⟩ := hg.three (Nat.zero_lt_succ _) (Nat.zero_lt_succ _) (Nat.zero_lt_succ _); clear hg; generalize hR : w.heap.size + 1 + 1 = bR at fR fz ⊢; replace hR : Hid (w.heap.size + 1 < bR) := by (show w.heap.size + 1 < bR); omega)
    have hR' : w.heap.size ≤ bR := by have := hR.out; omega
    exact bodyPost_ret (v := .tuple #[.agg #[.bool true, .int .i64 s, .int .u64 0], .int .i64 0]) (by simp [results, Try.results10, go_sem, fR]) rfl ⟨rfl, ((hG.store hR' _).store hR' _).store hR' _⟩
theorem ref3Add_c (a b : Bool) (i u j v : Int) (h : inN i u) (k : inN j v) (w : World) :
    Calls Try.prog 10 #[.agg #[.bool a, .int .i64 i, .int .u64 u], .agg #[.bool b, .int .i64 j, .int .u64 v]] w fun e w' => e = .returned (resV (addR a i u b j v)) ∧ Gr w w' := by
  obtain ⟨⟨i0, i1⟩, u0, u1⟩ := h
  obtain ⟨⟨j0, j1⟩, v0, v1⟩ := k
  unfold addR
  cases a with
  | false => exact refAdd_mixed false b i u j v u0 u1 v0 v1 (Or.inl rfl) w
  | true =>
    cases b with
    | false => exact refAdd_mixed true false i u j v u0 u1 v0 v1 (Or.inr ⟨rfl, rfl⟩) w
    | true =>
      rw [if_pos ⟨rfl, rfl⟩]
      obtain ⟨k1, p1, p2, p3⟩ := wrap_cases (9223372036854775807 - j)
      obtain ⟨k2, q1, q2, q3⟩ := wrap_cases (-9223372036854775808 - j)
      by_cases hf : -9223372036854775808 ≤ i + j ∧ i + j < 9223372036854775808
      · rw [fitR_in hf]
        exact refAdd_ok i u j v _ _ _ rfl rfl (wrap_in hf) (by omega) w
      · rw [fitR_out hf]
        exact refAdd_over i u j v _ _ rfl rfl (by omega) w
set_option linter.unusedVariables false in
set_option maxHeartbeats 2000000 in
theorem refSub_over (i u j v m l : Int) (hm : IntKind.i64.wrap (9223372036854775807 + j) = m) (hl : IntKind.i64.wrap (-9223372036854775808 + j) = l) (hC : (j < 0 ∧ m < i) ∨ (¬ j < 0 ∧ 0 < j ∧ i < l)) (w : World) :
    Calls Try.prog 12 #[.agg #[.bool true, .int .i64 i, .int .u64 u], .agg #[.bool true, .int .i64 j, .int .u64 v]] w fun e w' => e = .returned (.tuple #[.agg #[.bool false, .int .i64 0, .int .u64 0], .int .i64 10]) ∧ Gr w w' := by
  rcases hC with ⟨h1, h2⟩ | ⟨h1, h2, h3⟩
  all_goals
    go_enter Try.func12, Try.ntmps12
    go_wp2
    exact bodyPost_ret (v := .tuple #[.agg #[.bool false, .int .i64 0, .int .u64 0], .int .i64 10]) (by simp [results, Try.results12, go_sem]) rfl ⟨rfl, (((Gr.refl _).alloc _).alloc _).alloc _⟩
set_option linter.unusedVariables false in
set_option maxHeartbeats 2000000 in
theorem refSub_ok (i u j v m l s : Int) (hm : IntKind.i64.wrap (9223372036854775807 + j) = m) (hl : IntKind.i64.wrap (-9223372036854775808 + j) = l) (hs : IntKind.i64.wrap (i - j) = s) (hC : (j < 0 ∧ ¬ m < i ∧ ¬ 0 < j) ∨ (¬ j < 0 ∧ 0 < j ∧ ¬ i < l) ∨ (¬ j < 0 ∧ ¬ 0 < j)) (w : World) :
    Calls Try.prog 12 #[.agg #[.bool true, .int .i64 i, .int .u64 u], .agg #[.bool true, .int .i64 j, .int .u64 v]] w fun e w' => e = .returned (.tuple #[.agg #[.bool true, .int .i64 s, .int .u64 0], .int .i64 0]) ∧ Gr w w' := by
  rcases hC with ⟨h1, h2, h3⟩ | ⟨h1, h2, h3⟩ | ⟨h1, h2⟩
  all_goals
    go_enter Try.func12, Try.ntmps12
    go_wp2_with (go_at_call 44; refine (refWhole_c _ _).mono ?_; rintro e w' ⟨rfl, hg⟩; obtain ⟨fA, fB, fR, fz, hG⟩ := hg.three (Nat.zero_lt_succ _) (Nat.zero_lt_succ _) (Nat.zero_lt_succ _); clear hg; generalize hR : w.heap.size + 1 + 1 = bR at fR fz ⊢; replace hR : Hid (w.heap.size + 1 < bR) := by (show w.heap.size + 1 < bR); omega)
    have hR' : w.heap.size ≤ bR := by have := hR.out; omega
    exact bodyPost_ret (v := .tuple #[.agg #[.bool true, .int .i64 s, .int .u64 0], .int .i64 0]) (by simp [results, Try.results12, go_sem, fR]) rfl ⟨rfl, ((hG.store hR' _).store hR' _).store hR' _⟩
theorem ref3Sub_c (a b : Bool) (i u j v : Int) (h : inN i u) (k : inN j v) (w : World) :
    Calls Try.prog 12 #[.agg #[.bool a, .int .i64 i, .int .u64 u], .agg #[.bool b, .int .i64 j, .int .u64 v]] w fun e w' => e = .returned (resV (subR a i u b j v)) ∧ Gr w w' := by
  obtain ⟨⟨i0, i1⟩, u0, u1⟩ := h
  obtain ⟨⟨j0, j1⟩, v0, v1⟩ := k
  unfold subR
  cases a with
  | false => exact refSub_mixed false b i u j v u0 u1 v0 v1 (Or.inl rfl) w
  | true =>
    cases b with
    | false => exact refSub_mixed true false i u j v u0 u1 v0 v1 (Or.inr ⟨rfl, rfl⟩) w
    | true =>
      rw [if_pos ⟨rfl, rfl⟩]
      obtain ⟨k1, p1, p2, p3⟩ := wrap_cases (9223372036854775807 + j)
      obtain ⟨k2, q1, q2, q3⟩ := wrap_cases (-9223372036854775808 + j)
      by_cases hf : -9223372036854775808 ≤ i - j ∧ i - j < 9223372036854775808
      · rw [fitR_in hf]
        exact refSub_ok i u j v _ _ _ rfl rfl (wrap_in hf) (by omega) w
      · rw [fitR_out hf]
        exact refSub_over i u j v _ _ rfl rfl (by omega) w
end Go.Proofs.Ytpbcplgpbafjpaa.W
