/- Contracts of package num on two whole numbers. -/
import Derived.Test.YtpbcplgpbafjpabNumA
import Derived.Test.YtpbcplgpbafjpabNumP
namespace Go.Proofs.Ytpbcplgpbafjpab.W
open Go.ChangeShapes Go.WideShapes Go.RowKit
/-- a result, as the calls hand it back -/
def resV (r : Res) : Value := .tuple #[.agg #[.bool r.w, .int .i64 r.i, .int .u64 r.u], .int .i64 r.e]

set_option maxHeartbeats 1000000 in
theorem addW_in (a b s : Int) (hs : IntKind.i64.wrap (a + b) = s) (hC : (s < a ∧ b < 0) ∨ (¬ s < a ∧ ¬ b < 0)) (w : World) :
    Calls Try.prog 24 #[.int .i64 a, .int .i64 b] w fun e w' => e = .returned (.tuple #[.agg #[.bool true, .int .i64 s, .int .u64 0], .int .i64 0]) ∧ Gr w w' := by
  rcases hC with ⟨h1, h2⟩ | ⟨h1, h2⟩
  all_goals
    go_enter Try.func24, Try.ntmps24
    go_wp2_with (go_at_call 34; refine (numWhole_c _ _).mono ?_; rintro e w' ⟨rfl, hg⟩; obtain ⟨fR, fz, hG⟩ := hg.one (Nat.zero_lt_succ _); clear hg)
    exact bodyPost_ret (v := .tuple #[.agg #[.bool true, .int .i64 s, .int .u64 0], .int .i64 0]) (by simp [results, Try.results24, go_sem, fR]) rfl ⟨rfl, ((hG.store (Nat.le_refl _) _).store (Nat.le_refl _) _).store (Nat.le_refl _) _⟩
set_option maxHeartbeats 1000000 in
theorem addW_out (a b s : Int) (hs : IntKind.i64.wrap (a + b) = s) (hC : (s < a ∧ ¬ b < 0) ∨ (¬ s < a ∧ b < 0)) (w : World) :
    Calls Try.prog 24 #[.int .i64 a, .int .i64 b] w fun e w' => e = .returned (.tuple #[.agg #[.bool false, .int .i64 0, .int .u64 0], .int .i64 10]) ∧ Gr w w' := by
  rcases hC with ⟨h1, h2⟩ | ⟨h1, h2⟩
  all_goals
    go_enter Try.func24, Try.ntmps24
    go_wp2_with (go_at_call 33; refine (refused_c _ _).mono ?_; rintro e w' ⟨rfl, hg⟩; obtain ⟨fR, fz, hG⟩ := hg.one (Nat.zero_lt_succ _); clear hg)
    exact bodyPost_ret (v := .tuple #[.agg #[.bool false, .int .i64 0, .int .u64 0], .int .i64 10]) (by simp [results, Try.results24, go_sem, fR]) rfl ⟨rfl, ((hG.store (Nat.le_refl _) _).store (Nat.le_refl _) _).store (Nat.le_refl _) _⟩
theorem addW_c (a b : Int) (a0 : -9223372036854775808 ≤ a) (a1 : a < 9223372036854775808) (b0 : -9223372036854775808 ≤ b) (b1 : b < 9223372036854775808) (w : World) :
    Calls Try.prog 24 #[.int .i64 a, .int .i64 b] w fun e w' => e = .returned (resV (fitR (a + b))) ∧ Gr w w' := by
  by_cases h : -9223372036854775808 ≤ a + b ∧ a + b < 9223372036854775808
  · rw [fitR_in h]
    exact addW_in a b (a + b) (wrap_in h) (by omega) w
  · rw [fitR_out h]
    obtain ⟨k, h1, h2, h3⟩ := wrap_cases (a + b)
    exact addW_out a b _ rfl (by omega) w
set_option maxHeartbeats 1000000 in
theorem subW_in (a b s : Int) (hs : IntKind.i64.wrap (a - b) = s) (hC : (a < s ∧ b < 0) ∨ (¬ a < s ∧ ¬ b < 0)) (w : World) :
    Calls Try.prog 28 #[.int .i64 a, .int .i64 b] w fun e w' => e = .returned (.tuple #[.agg #[.bool true, .int .i64 s, .int .u64 0], .int .i64 0]) ∧ Gr w w' := by
  rcases hC with ⟨h1, h2⟩ | ⟨h1, h2⟩
  all_goals
    go_enter Try.func28, Try.ntmps28
    go_wp2_with (go_at_call 34; refine (numWhole_c _ _).mono ?_; rintro e w' ⟨rfl, hg⟩; obtain ⟨fR, fz, hG⟩ := hg.one (Nat.zero_lt_succ _); clear hg)
    exact bodyPost_ret (v := .tuple #[.agg #[.bool true, .int .i64 s, .int .u64 0], .int .i64 0]) (by simp [results, Try.results28, go_sem, fR]) rfl ⟨rfl, ((hG.store (Nat.le_refl _) _).store (Nat.le_refl _) _).store (Nat.le_refl _) _⟩
set_option maxHeartbeats 1000000 in
theorem subW_out (a b s : Int) (hs : IntKind.i64.wrap (a - b) = s) (hC : (a < s ∧ ¬ b < 0) ∨ (¬ a < s ∧ b < 0)) (w : World) :
    Calls Try.prog 28 #[.int .i64 a, .int .i64 b] w fun e w' => e = .returned (.tuple #[.agg #[.bool false, .int .i64 0, .int .u64 0], .int .i64 10]) ∧ Gr w w' := by
  rcases hC with ⟨h1, h2⟩ | ⟨h1, h2⟩
  all_goals
    go_enter Try.func28, Try.ntmps28
    go_wp2_with (go_at_call 33; refine (refused_c _ _).mono ?_; rintro e w' ⟨rfl, hg⟩; obtain ⟨fR, fz, hG⟩ := hg.one (Nat.zero_lt_succ _); clear hg)
    exact bodyPost_ret (v := .tuple #[.agg #[.bool false, .int .i64 0, .int .u64 0], .int .i64 10]) (by simp [results, Try.results28, go_sem, fR]) rfl ⟨rfl, ((hG.store (Nat.le_refl _) _).store (Nat.le_refl _) _).store (Nat.le_refl _) _⟩
theorem subW_c (a b : Int) (a0 : -9223372036854775808 ≤ a) (a1 : a < 9223372036854775808) (b0 : -9223372036854775808 ≤ b) (b1 : b < 9223372036854775808) (w : World) :
    Calls Try.prog 28 #[.int .i64 a, .int .i64 b] w fun e w' => e = .returned (resV (fitR (a - b))) ∧ Gr w w' := by
  by_cases h : -9223372036854775808 ≤ a - b ∧ a - b < 9223372036854775808
  · rw [fitR_in h]
    exact subW_in a b (a - b) (wrap_in h) (by omega) w
  · rw [fitR_out h]
    obtain ⟨k, h1, h2, h3⟩ := wrap_cases (a - b)
    exact subW_out a b _ rfl (by omega) w
set_option maxHeartbeats 1000000 in
theorem mulW_zero (a b : Int) (hC : a = 0 ∨ ((a == 0) = false ∧ b = 0)) (w : World) :
    Calls Try.prog 30 #[.int .i64 a, .int .i64 b] w fun e w' => e = .returned (.tuple #[.agg #[.bool true, .int .i64 0, .int .u64 0], .int .i64 0]) ∧ Gr w w' := by
  rcases hC with rfl | ⟨h1, rfl⟩
  all_goals
    go_enter Try.func30, Try.ntmps30
    go_wp2_with (go_at_call 34; refine (numWhole_c _ _).mono ?_; rintro e w' ⟨rfl, hg⟩; obtain ⟨fR, fz, hG⟩ := hg.one (Nat.zero_lt_succ _); clear hg)
    exact bodyPost_ret (v := .tuple #[.agg #[.bool true, .int .i64 0, .int .u64 0], .int .i64 0]) (by simp [results, Try.results30, go_sem, fR]) rfl ⟨rfl, ((hG.store (Nat.le_refl _) _).store (Nat.le_refl _) _).store (Nat.le_refl _) _⟩
set_option maxHeartbeats 1000000 in
theorem mulW_in (a b p q : Int) (ha : (a == 0) = false) (hb : (b == 0) = false) (hb' : ¬ b = 0) (hp : IntKind.i64.wrap (a * b) = p) (hq : IntKind.i64.wrap (p.tdiv b) = q) (h1 : (decide (p < 0) != (decide (a < 0) != decide (b < 0))) = false) (h2 : (q != a) = false) (w : World) :
    Calls Try.prog 30 #[.int .i64 a, .int .i64 b] w fun e w' => e = .returned (.tuple #[.agg #[.bool true, .int .i64 p, .int .u64 0], .int .i64 0]) ∧ Gr w w' := by
  by_cases x1 : p < 0 <;> by_cases x2 : a < 0 <;> by_cases x3 : b < 0 <;> simp only [x1, x2, x3, decide_true, decide_false] at h1 <;> first | (exact absurd h1 (by decide)) | skip
  all_goals
    clear h1
    go_enter Try.func30, Try.ntmps30
    go_wp2_with (go_at_call 34; refine (numWhole_c _ _).mono ?_; rintro e w' ⟨rfl, hg⟩; obtain ⟨fR, fz, hG⟩ := hg.one (Nat.zero_lt_succ _); clear hg)
    exact bodyPost_ret (v := .tuple #[.agg #[.bool true, .int .i64 p, .int .u64 0], .int .i64 0]) (by simp [results, Try.results30, go_sem, fR]) rfl ⟨rfl, ((hG.store (Nat.le_refl _) _).store (Nat.le_refl _) _).store (Nat.le_refl _) _⟩
set_option maxHeartbeats 1000000 in
theorem mulW_out (a b p q : Int) (ha : (a == 0) = false) (hb : (b == 0) = false) (hb' : ¬ b = 0) (hp : IntKind.i64.wrap (a * b) = p) (hq : IntKind.i64.wrap (p.tdiv b) = q) (hC : (decide (p < 0) != (decide (a < 0) != decide (b < 0))) = true ∨ ((decide (p < 0) != (decide (a < 0) != decide (b < 0))) = false ∧ (q != a) = true)) (w : World) :
    Calls Try.prog 30 #[.int .i64 a, .int .i64 b] w fun e w' => e = .returned (.tuple #[.agg #[.bool false, .int .i64 0, .int .u64 0], .int .i64 10]) ∧ Gr w w' := by
  rcases hC with h1 | ⟨h1, h2⟩ <;> by_cases x1 : p < 0 <;> by_cases x2 : a < 0 <;> by_cases x3 : b < 0 <;> simp only [x1, x2, x3, decide_true, decide_false] at h1 <;> first | (exact absurd h1 (by decide)) | skip
  all_goals
    clear h1
    go_enter Try.func30, Try.ntmps30
    go_wp2_with (go_at_call 33; refine (refused_c _ _).mono ?_; rintro e w' ⟨rfl, hg⟩; obtain ⟨fR, fz, hG⟩ := hg.one (Nat.zero_lt_succ _); clear hg)
    exact bodyPost_ret (v := .tuple #[.agg #[.bool false, .int .i64 0, .int .u64 0], .int .i64 10]) (by simp [results, Try.results30, go_sem, fR]) rfl ⟨rfl, ((hG.store (Nat.le_refl _) _).store (Nat.le_refl _) _).store (Nat.le_refl _) _⟩
theorem mulW_c (a b : Int) (a0 : -9223372036854775808 ≤ a) (a1 : a < 9223372036854775808) (b0 : -9223372036854775808 ≤ b) (b1 : b < 9223372036854775808) (w : World) :
    Calls Try.prog 30 #[.int .i64 a, .int .i64 b] w fun e w' => e = .returned (resV (fitR (a * b))) ∧ Gr w w' := by
  by_cases ha : a = 0
  · subst ha
    rw [Int.zero_mul, fitR_in (by omega)]
    exact mulW_zero 0 b (Or.inl rfl) w
  · by_cases hb : b = 0
    · subst hb
      rw [Int.mul_zero, fitR_in (by omega)]
      exact mulW_zero a 0 (Or.inr ⟨by simpa using ha, rfl⟩) w
    · by_cases h : -9223372036854775808 ≤ a * b ∧ a * b < 9223372036854775808
      · rw [fitR_in h]
        obtain ⟨m1, m2⟩ := mul_in a b ha hb a0 a1
        exact mulW_in a b (a * b) a (by simpa using ha) (by simpa using hb) hb (wrap_in h) m2 m1 (by simp) w
      · rw [fitR_out h]
        refine mulW_out a b _ _ (by simpa using ha) (by simpa using hb) hb rfl rfl ?_ w
        cases h1 : (decide (IntKind.i64.wrap (a * b) < 0) != (decide (a < 0) != decide (b < 0))) with
        | true => exact Or.inl rfl
        | false =>
          refine Or.inr ⟨rfl, ?_⟩
          rw [bne_iff_ne]
          intro hq
          have := mul_back a b _ ha hb b0 b1 rfl h1 hq
          obtain ⟨k, h1, h2, h3⟩ := wrap_cases (a * b)
          omega
end Go.Proofs.Ytpbcplgpbafjpab.W
