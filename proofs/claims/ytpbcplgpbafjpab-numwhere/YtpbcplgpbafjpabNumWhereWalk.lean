/- The walk of the statement NumWhere: it returns true at every two whole numbers. -/
import Derived.Test.YtpbcplgpbafjpabNumAw
import Derived.Test.YtpbcplgpbafjpabNumS
import Derived.OpenShut
import Derived.RowKit3
namespace Go.Proofs.Ytpbcplgpbafjpab.W
open Go.ChangeShapes Go.WideShapes Go.RowKit
set_option maxHeartbeats 2000000 in
theorem numWhere_out (a b : Int) (w : World) (hC : b < 0 ∨ (¬ b < 0 ∧ 63 < b))
    (c1 : ∀ w, Calls Try.prog 15 #[.int .i64 a, .int .i64 b] w fun e w' => e = .returned (.tuple #[.int .i64 0, .int .i64 12]) ∧ w' = w)
    (c2 : ∀ w, Calls Try.prog 16 #[.int .i64 a, .int .i64 b] w fun e w' => e = .returned (.tuple #[.int .i64 0, .int .i64 12]) ∧ w' = w) :
    Calls Try.prog 4 #[.int .i64 a, .int .i64 b] w fun e w' => e = .returned (.bool true) ∧ Gr w w' := by
  have hG := Gr.refl w
  rcases hC with h1 | ⟨h1, h2⟩
  all_goals
    go_enter Try.func4, Try.ntmps4
    go_wp2_with (first | (go_at_call 15; with_reducible refine (c1 _).mono ?_; rintro e w' ⟨rfl, rfl⟩) | (go_at_call 16; with_reducible refine (c2 _).mono ?_; rintro e w' ⟨rfl, rfl⟩) | (go_at_call 14; refine (awake_c _).mono ?_; rintro e w' ⟨rfl, hg⟩; replace hG := hG.trans hg; clear hg))
    go_ret
    exact ⟨rfl, hG⟩
set_option maxHeartbeats 2000000 in
theorem numWhere_in (a b b1 x z g v i r : Int) (w : World) (h2 : ¬ 63 < b) (h0 : 0 ≤ b) (hb : IntKind.i64.wrap (b + 1) = b1) (hr : a / 2 ^ b.toNat = r)
    (hC : (b < 63 ∧ z = v ∧ g = i) ∨ ¬ b < 63)
    (c1 : ∀ w, Calls Try.prog 15 #[.int .i64 a, .int .i64 b] w fun e w' => e = .returned (.tuple #[.int .i64 x, .int .i64 0]) ∧ w' = w)
    (c2 : ∀ w, Calls Try.prog 16 #[.int .i64 x, .int .i64 b] w fun e w' => e = .returned (.tuple #[.int .i64 a, .int .i64 0]) ∧ w' = w)
    (c3 : ∀ w, Calls Try.prog 15 #[.int .i64 x, .int .i64 1] w fun e w' => e = .returned (.tuple #[.int .i64 z, .int .i64 g]) ∧ w' = w)
    (c4 : ∀ w, Calls Try.prog 15 #[.int .i64 a, .int .i64 b1] w fun e w' => e = .returned (.tuple #[.int .i64 v, .int .i64 i]) ∧ w' = w)
    (c5 : ∀ w, Calls Try.prog 16 #[.int .i64 a, .int .i64 b] w fun e w' => e = .returned (.tuple #[.int .i64 r, .int .i64 0]) ∧ w' = w) :
    Calls Try.prog 4 #[.int .i64 a, .int .i64 b] w fun e w' => e = .returned (.bool true) ∧ Gr w w' := by
  have hG := Gr.refl w
  have hrr : ¬ r < r := by omega
  rcases hC with ⟨h3, rfl, rfl⟩ | h3
  all_goals
    go_enter Try.func4, Try.ntmps4
    go_wp2_with (first | (go_at_call 15; with_reducible refine (c1 _).mono ?_; rintro e w' ⟨rfl, rfl⟩) | (go_at_call 16; with_reducible refine (c2 _).mono ?_; rintro e w' ⟨rfl, rfl⟩) | (go_at_call 15; with_reducible refine (c3 _).mono ?_; rintro e w' ⟨rfl, rfl⟩) | (go_at_call 15; with_reducible refine (c4 _).mono ?_; rintro e w' ⟨rfl, rfl⟩) | (go_at_call 16; with_reducible refine (c5 _).mono ?_; rintro e w' ⟨rfl, rfl⟩) | (go_at_call 14; refine (awake_c _).mono ?_; rintro e w' ⟨rfl, hg⟩; replace hG := hG.trans hg; clear hg))
    go_ret
    exact ⟨rfl, hG⟩
set_option maxHeartbeats 2000000 in
theorem numWhere_over (a b r : Int) (w : World) (h2 : ¬ 63 < b) (h0 : 0 ≤ b) (hr : a / 2 ^ b.toNat = r) (ha : (a == 0) = false) (hC : b < 63 ∨ ¬ b < 63)
    (c1 : ∀ w, Calls Try.prog 15 #[.int .i64 a, .int .i64 b] w fun e w' => e = .returned (.tuple #[.int .i64 0, .int .i64 10]) ∧ w' = w)
    (c5 : ∀ w, Calls Try.prog 16 #[.int .i64 a, .int .i64 b] w fun e w' => e = .returned (.tuple #[.int .i64 r, .int .i64 0]) ∧ w' = w) :
    Calls Try.prog 4 #[.int .i64 a, .int .i64 b] w fun e w' => e = .returned (.bool true) ∧ Gr w w' := by
  have hG := Gr.refl w
  have hrr : ¬ r < r := by omega
  rcases hC with h3 | h3
  all_goals
    go_enter Try.func4, Try.ntmps4
    go_wp2_with (first | (go_at_call 15; with_reducible refine (c1 _).mono ?_; rintro e w' ⟨rfl, rfl⟩) | (go_at_call 16; with_reducible refine (c5 _).mono ?_; rintro e w' ⟨rfl, rfl⟩) | (go_at_call 14; refine (awake_c _).mono ?_; rintro e w' ⟨rfl, hg⟩; replace hG := hG.trans hg; clear hg))
    go_ret
    exact ⟨rfl, hG⟩
set_option linter.unusedVariables false in
theorem numWhere_walk (a0 : Int) (a1 : Int) (w0 : (Lit.int .i64 a0).wf = true) (w1 : (Lit.int .i64 a1).wf = true) (w : World) :
    Calls Try.prog 4 #[.int .i64 a0, .int .i64 a1] w fun e w' => e = .returned (.bool true) ∧ Below w.heap.size w w' := by
  obtain ⟨h0, h0'⟩ := bounds_i64 w0
  refine Calls.mono (R := fun e w' => e = .returned (.bool true) ∧ Gr w w') ?_ (fun _ _ ⟨h, g⟩ => ⟨h, g.below⟩)
  by_cases h : 0 ≤ a1 ∧ a1 ≤ 63
  · obtain ⟨t0, t1⟩ := two_pow_range h.2
    have c5 := shr_in a0 a1 h.1 h.2
    by_cases hf : -9223372036854775808 ≤ a0 * 2 ^ a1.toNat ∧ a0 * 2 ^ a1.toNat < 9223372036854775808
    · have c1 := shl_c a0 a1
      have e1 : shlV a0 a1 = a0 * 2 ^ a1.toNat := if_pos ⟨h.1, h.2, hf⟩
      have e2 : shlE a0 a1 = 0 := by unfold shlE; rw [if_pos h, if_pos hf]
      rw [e1, e2] at c1
      have c2 := shr_in (a0 * 2 ^ a1.toNat) a1 h.1 h.2
      rw [Int.mul_ediv_cancel _ (by omega)] at c2
      have hb : IntKind.i64.wrap (a1 + 1) = a1 + 1 := wrap_in (by omega)
      refine numWhere_in a0 a1 (a1 + 1) _ _ _ _ _ _ w (by omega) h.1 hb rfl ?_ c1 c2 (shl_c _ 1) (shl_c a0 (a1 + 1)) c5
      by_cases h3 : a1 < 63
      · refine Or.inl ⟨h3, ?_⟩
        have e3 : (a1 + 1).toNat = a1.toNat + 1 := by omega
        have e4 : a0 * 2 ^ a1.toNat * 2 ^ (1 : Int).toNat = a0 * 2 ^ (a1 + 1).toNat := by
          rw [e3, Int.pow_succ, Int.mul_assoc]; rfl
        unfold shlV shlE
        rw [e4]
        have q : 0 ≤ a1 + 1 ∧ a1 + 1 ≤ 63 := by omega
        by_cases hF : -9223372036854775808 ≤ a0 * 2 ^ (a1 + 1).toNat ∧ a0 * 2 ^ (a1 + 1).toNat < 9223372036854775808
        · rw [if_pos ⟨by decide, by decide, hF⟩, if_pos ⟨q.1, q.2, hF⟩, if_pos (by decide), if_pos q]
          exact ⟨rfl, rfl⟩
        · rw [if_neg (fun g => hF g.2.2), if_neg (fun g => hF g.2.2), if_pos (by decide), if_pos q]
          exact ⟨rfl, rfl⟩
      · exact Or.inr h3
    · have c1 := shl_c a0 a1
      have e1 : shlV a0 a1 = 0 := if_neg (fun g => hf g.2.2)
      have e2 : shlE a0 a1 = 10 := by unfold shlE; rw [if_pos h, if_neg hf]
      rw [e1, e2] at c1
      have ha : a0 ≠ 0 := fun g => hf (by rw [g, Int.zero_mul]; omega)
      exact numWhere_over a0 a1 _ w (by omega) h.1 rfl (by simpa using ha) (by omega) c1 c5
  · exact numWhere_out a0 a1 w (by omega) (shl_out a0 a1 (decide_eq_false h)) (shr_out a0 a1 (decide_eq_false h))
end Go.Proofs.Ytpbcplgpbafjpab.W
