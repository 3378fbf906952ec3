/- The walk of the statement on a digit behind a whole number's text. -/
import Derived.Test.YtmdpnoebpjoiaaaDoorST4
namespace Go.Proofs.YtmdpnoebpjoiaaaDoor.W
open Go.ChangeShapes Go.WideShapes Go.RowKit
set_option maxHeartbeats 400000 in
theorem textDigits_core (i d x y A B : Int) (I D : List UInt8) (w wk : World) (hS : St w wk) (d0 : ¬ d < 0) (d9 : ¬ 9 < d) (i0 : ¬ i = 0) (il : -9223372036854775808 ≤ i) (ih : i ≤ 9223372036854775807)
    (ci : ∀ w, Tabs w → Calls Tryd.prog 9 #[.int .i64 i] w fun e w' => e = .returned (.string ⟨I.toArray⟩) ∧ Below w.heap.size w w')
    (cd : ∀ w, Tabs w → Calls Tryd.prog 9 #[.int .i64 d] w fun e w' => e = .returned (.string ⟨D.toArray⟩) ∧ Below w.heap.size w w')
    (ca : ∀ w, (Op.stringOp .add ⟨I.toArray⟩ ⟨D.toArray⟩).run Tryd.prog w = .ok (.string ⟨(I ++ D).toArray⟩) w)
    (cp : ∀ w, Calls Tryd.prog 15 #[.string ⟨(I ++ D).toArray⟩] w fun e w' => e = .returned (.tuple #[.int .i64 x, .int .i64 y]) ∧ w' = w)
    (hA : (9223372036854775807 - d).tdiv 10 = A) (hA' : (9223372036854775807 - d) / 10 = A) (hB : (-9223372036854775808 + d).tdiv 10 = B) (hB2 : wrap64 B = B)
    (hR : ((decide (i ≤ A) = false ∨ decide (i ≤ A) = true ∧ decide (B ≤ i) = false) ∧ y = 13 ∧ x = 0) ∨ (decide (i ≤ A) = true ∧ decide (B ≤ i) = true ∧ y = 0 ∧ wrap64 (10 * i) = 10 * i ∧ wrap64 (10 * i + d) = 10 * i + d ∧ (i < 0 ∧ wrap64 (10 * i - d) = 10 * i - d ∧ x = 10 * i - d ∨ ¬ i < 0 ∧ x = 10 * i + d))) :
    Calls Tryd.prog 7 #[.int .i64 i, .int .i64 d] wk fun e w' => e = .returned (.bool true) ∧ Below w.heap.size w w' := by
  rcases hR with ⟨h | ⟨h, h2⟩, rfl, rfl⟩ | ⟨h, h2, rfl, m1, m2, ⟨h3, h4, rfl⟩ | ⟨h3, rfl⟩⟩
  · go_enter Tryd.func7, Tryd.ntmps7
    go_wp2_with (first | (go_at_call 9; (first | (with_reducible refine (ci _ hS.tabs).mono ?_) | (with_reducible refine (cd _ hS.tabs).mono ?_)); rintro e wn ⟨rfl, hb⟩; (replace hS := hS.go hb); clear hb) | (go_at_call 15; (with_reducible refine (cp _).mono ?_); rintro e wn ⟨rfl, hz⟩; (have hz' := hz.symm); subst hz'; clear hz) | (go_at_call 14; refine (awake_c _ hS.tabs).mono ?_; rintro e wn ⟨rfl, hb⟩; (replace hS := hS.go hb); clear hb))
    go_ret
    exact ⟨rfl, hS.below⟩
  · go_enter Tryd.func7, Tryd.ntmps7
    go_wp2_with (first | (go_at_call 9; (first | (with_reducible refine (ci _ hS.tabs).mono ?_) | (with_reducible refine (cd _ hS.tabs).mono ?_)); rintro e wn ⟨rfl, hb⟩; (replace hS := hS.go hb); clear hb) | (go_at_call 15; (with_reducible refine (cp _).mono ?_); rintro e wn ⟨rfl, hz⟩; (have hz' := hz.symm); subst hz'; clear hz) | (go_at_call 14; refine (awake_c _ hS.tabs).mono ?_; rintro e wn ⟨rfl, hb⟩; (replace hS := hS.go hb); clear hb))
    go_ret
    exact ⟨rfl, hS.below⟩
  · go_enter Tryd.func7, Tryd.ntmps7
    go_wp2_with (first | (go_at_call 9; (first | (with_reducible refine (ci _ hS.tabs).mono ?_) | (with_reducible refine (cd _ hS.tabs).mono ?_)); rintro e wn ⟨rfl, hb⟩; (replace hS := hS.go hb); clear hb) | (go_at_call 15; (with_reducible refine (cp _).mono ?_); rintro e wn ⟨rfl, hz⟩; (have hz' := hz.symm); subst hz'; clear hz) | (go_at_call 14; refine (awake_c _ hS.tabs).mono ?_; rintro e wn ⟨rfl, hb⟩; (replace hS := hS.go hb); clear hb))
    go_ret
    exact ⟨rfl, hS.below⟩
  · go_enter Tryd.func7, Tryd.ntmps7
    go_wp2_with (first | (go_at_call 9; (first | (with_reducible refine (ci _ hS.tabs).mono ?_) | (with_reducible refine (cd _ hS.tabs).mono ?_)); rintro e wn ⟨rfl, hb⟩; (replace hS := hS.go hb); clear hb) | (go_at_call 15; (with_reducible refine (cp _).mono ?_); rintro e wn ⟨rfl, hz⟩; (have hz' := hz.symm); subst hz'; clear hz) | (go_at_call 14; refine (awake_c _ hS.tabs).mono ?_; rintro e wn ⟨rfl, hb⟩; (replace hS := hS.go hb); clear hb))
    go_ret
    exact ⟨rfl, hS.below⟩
theorem textDigits_walk (a0 a1 : Int) (h0 : (Lit.int .i64 a0).wf = true) (h1 : (Lit.int .i64 a1).wf = true) (w : World) (ht : Tabs w) :
    Calls Tryd.prog 7 #[.int .i64 a0, .int .i64 a1] w fun e w' => e = .returned (.bool true) ∧ Below w.heap.size w w' := by
  replace h0 := bounds_i64 h0
  replace h1 := bounds_i64 h1
  by_cases hd : a1 < 0
  · go_enter Tryd.func7, Tryd.ntmps7
    go_wp2_with fail
    go_ret
    exact ⟨rfl, Below.refl _ _⟩
  · by_cases hd9 : 9 < a1
    · go_enter Tryd.func7, Tryd.ntmps7
      go_wp2_with fail
      go_ret
      exact ⟨rfl, Below.refl _ _⟩
    · by_cases hi : a0 = 0
      · subst hi
        go_enter Tryd.func7, Tryd.ntmps7
        go_wp2_with fail
        go_ret
        exact ⟨rfl, Below.refl _ _⟩
      · have l0 := int_len a0 (by omega) (by omega)
        have l1 := int_len a1 (by omega) (by omega)
        have rd := readI_digit a0 a1.toNat (by omega) hi (by omega) (by omega)
        rw [← intT_digit a1 (by omega)] at rd
        have e1 : ((a1.toNat : Nat) : Int) = a1 := by omega
        rw [e1] at rd
        have tA : (9223372036854775807 - a1).tdiv 10 = (9223372036854775807 - a1) / 10 := Int.tdiv_eq_ediv_of_nonneg (by omega)
        have tB : (-9223372036854775808 + a1).tdiv 10 = -((9223372036854775808 - a1) / 10) := by
          have e : -9223372036854775808 + a1 = -(9223372036854775808 - a1) := by omega
          rw [e, Int.neg_tdiv, Int.tdiv_eq_ediv_of_nonneg (by omega)]
        refine textDigits_core a0 a1 (readI (intT a0 ++ intT a1)).1 (readI (intT a0 ++ intT a1)).2 _ _ (intT a0) (intT a1) w w (St.start ht) hd hd9 hi (by omega) (by omega) (fun w h => int_c a0 (by omega) (by omega) w h) (fun w h => int_c a1 (by omega) (by omega) w h)
          (fun w => run_string_add_lists w _ _ (by omega) (by omega)) (fun w => parseInt_c ⟨(intT a0 ++ intT a1).toArray⟩ (str_max _ (by simp; omega)) w) tA rfl tB (by unfold wrap64; omega) ?_
        rw [rd]
        by_cases hn : a0 < 0
        · simp only [if_pos hn]
          by_cases hf : -9223372036854775808 ≤ 10 * a0 - a1 ∧ 10 * a0 - a1 < 9223372036854775808
          · rw [if_pos hf]
            exact Or.inr ⟨decide_eq_true (by omega), decide_eq_true (by omega), rfl, by unfold wrap64; omega, by unfold wrap64; omega, Or.inl ⟨hn, by unfold wrap64; omega, rfl⟩⟩
          · rw [if_neg hf]
            exact Or.inl ⟨by by_cases q : a0 ≤ (9223372036854775807 - a1) / 10; exact Or.inr ⟨decide_eq_true q, decide_eq_false (by omega)⟩; exact Or.inl (decide_eq_false q), rfl, rfl⟩
        · simp only [if_neg hn]
          by_cases hf : -9223372036854775808 ≤ 10 * a0 + a1 ∧ 10 * a0 + a1 < 9223372036854775808
          · rw [if_pos hf]
            exact Or.inr ⟨decide_eq_true (by omega), decide_eq_true (by omega), rfl, by unfold wrap64; omega, by unfold wrap64; omega, Or.inr ⟨hn, rfl⟩⟩
          · rw [if_neg hf]
            exact Or.inl ⟨by by_cases q : a0 ≤ (9223372036854775807 - a1) / 10; exact Or.inr ⟨decide_eq_true q, decide_eq_false (by omega)⟩; exact Or.inl (decide_eq_false q), rfl, rfl⟩
end Go.Proofs.YtmdpnoebpjoiaaaDoor.W
