/- The walk of the statement NumRests: it returns true at every two whole numbers. -/
import Derived.Test.YtpbcplgpbafjpaaNumAw
import Derived.OpenShut
import Derived.RowKit3
namespace Go.Proofs.Ytpbcplgpbafjpaa.W
open Go.ChangeShapes Go.WideShapes Go.RowKit

set_option maxHeartbeats 2000000 in
theorem numRests_zero (a : Int) (w : World)
    (cF : ∀ w, Calls Try.prog 20 #[.agg #[.bool true, .int .i64 a, .int .u64 0], .agg #[.bool true, .int .i64 0, .int .u64 0]] w fun e w' => e = .returned (.tuple #[.agg #[.bool false, .int .i64 0, .int .u64 0], .int .i64 11]) ∧ Gr w w')
    (cM : ∀ w, Calls Try.prog 22 #[.agg #[.bool true, .int .i64 a, .int .u64 0], .agg #[.bool true, .int .i64 0, .int .u64 0]] w fun e w' => e = .returned (.tuple #[.agg #[.bool false, .int .i64 0, .int .u64 0], .int .i64 11]) ∧ Gr w w') :
    Calls Try.prog 8 #[.int .i64 a, .int .i64 0] w fun e w' => e = .returned (.bool true) ∧ Gr w w' := by
  have hG := Gr.refl w
  go_enter Try.func8, Try.ntmps8
  go_wp2_with (first | (go_at_call 35; refine (lawWhole_c _ _).mono ?_; rintro e w' ⟨rfl, hg⟩; (try replace hg := hg.of_drew); (first | (have f1 := hg.new (Nat.zero_lt_succ _); replace hg := hg.of_alloc) | (replace hg := hg.of_alloc) | skip); (try replace f1 := hg.cells f1 (Nat.zero_lt_succ _)); (try clear l1); (try have l1 := cells_lt f1 (Nat.zero_lt_succ _)); replace hG := hG.trans hg; clear hg) | (go_at_call 20; with_reducible refine (cF _).mono ?_; rintro e wQ ⟨rfl, hg⟩; (try replace hg := hg.of_drew); (first | (have f1 := hg.new (Nat.zero_lt_succ _); replace hg := hg.of_alloc) | (replace hg := hg.of_alloc) | skip); (try replace f1 := hg.cells f1 (Nat.zero_lt_succ _)); (try clear l1); (try have l1 := cells_lt f1 (Nat.zero_lt_succ _)); replace hG := hG.trans hg; clear hg) | (go_at_call 22; with_reducible refine (cM _).mono ?_; rintro e wR ⟨rfl, hg⟩; (try replace hg := hg.of_drew); (first | (have f1 := hg.new (Nat.zero_lt_succ _); replace hg := hg.of_alloc) | (replace hg := hg.of_alloc) | skip); (try replace f1 := hg.cells f1 (Nat.zero_lt_succ _)); (try clear l1); (try have l1 := cells_lt f1 (Nat.zero_lt_succ _)); replace hG := hG.trans hg; clear hg) | (go_at_call 19; refine (awake_c _).mono ?_; rintro e w' ⟨rfl, hg⟩; (try replace hg := hg.of_drew); (first | (have f1 := hg.new (Nat.zero_lt_succ _); replace hg := hg.of_alloc) | (replace hg := hg.of_alloc) | skip); (try replace f1 := hg.cells f1 (Nat.zero_lt_succ _)); (try clear l1); (try have l1 := cells_lt f1 (Nat.zero_lt_succ _)); replace hG := hG.trans hg; clear hg))
  go_ret
  exact ⟨rfl, hG⟩
set_option maxHeartbeats 2000000 in
theorem numRests_core (a b q r p s : Int) (w : World) (hb : (b == 0) = false) (hl : (a == -9223372036854775808) = false ∨ ((a == -9223372036854775808) = true ∧ (b == -1) = false))
    (hp : IntKind.i64.wrap (q * b) = p) (hs : IntKind.i64.wrap (p + r) = s) (he : (s != a) = false) (hC : (0 < b ∧ 0 ≤ r ∧ r < b) ∨ (¬ 0 < b ∧ r ≤ 0 ∧ b < r))
    (cF : ∀ w, Calls Try.prog 20 #[.agg #[.bool true, .int .i64 a, .int .u64 0], .agg #[.bool true, .int .i64 b, .int .u64 0]] w fun e w' => e = .returned (.tuple #[.agg #[.bool true, .int .i64 q, .int .u64 0], .int .i64 0]) ∧ Gr w w')
    (cM : ∀ w, Calls Try.prog 22 #[.agg #[.bool true, .int .i64 a, .int .u64 0], .agg #[.bool true, .int .i64 b, .int .u64 0]] w fun e w' => e = .returned (.tuple #[.agg #[.bool true, .int .i64 r, .int .u64 0], .int .i64 0]) ∧ Gr w w') :
    Calls Try.prog 8 #[.int .i64 a, .int .i64 b] w fun e w' => e = .returned (.bool true) ∧ Gr w w' := by
  have hG := Gr.refl w
  rcases hl with hl | ⟨hl, hm⟩ <;> rcases hC with ⟨x1, x2, x3⟩ | ⟨x1, x2, x3⟩
  all_goals
    go_enter Try.func8, Try.ntmps8
    go_wp2_with (first | (go_at_call 35; refine (lawWhole_c _ _).mono ?_; rintro e w' ⟨rfl, hg⟩; (try replace hg := hg.of_drew); (first | (have f1 := hg.new (Nat.zero_lt_succ _); replace hg := hg.of_alloc) | (replace hg := hg.of_alloc) | skip); (try replace f1 := hg.cells f1 (Nat.zero_lt_succ _)); (try clear l1); (try have l1 := cells_lt f1 (Nat.zero_lt_succ _)); replace hG := hG.trans hg; clear hg) | (go_at_call 20; with_reducible refine (cF _).mono ?_; rintro e wQ ⟨rfl, hg⟩; (try replace hg := hg.of_drew); (first | (have f1 := hg.new (Nat.zero_lt_succ _); replace hg := hg.of_alloc) | (replace hg := hg.of_alloc) | skip); (try replace f1 := hg.cells f1 (Nat.zero_lt_succ _)); (try clear l1); (try have l1 := cells_lt f1 (Nat.zero_lt_succ _)); replace hG := hG.trans hg; clear hg) | (go_at_call 22; with_reducible refine (cM _).mono ?_; rintro e wR ⟨rfl, hg⟩; (try replace hg := hg.of_drew); (first | (have f1 := hg.new (Nat.zero_lt_succ _); replace hg := hg.of_alloc) | (replace hg := hg.of_alloc) | skip); (try replace f1 := hg.cells f1 (Nat.zero_lt_succ _)); (try clear l1); (try have l1 := cells_lt f1 (Nat.zero_lt_succ _)); replace hG := hG.trans hg; clear hg) | (go_at_call 19; refine (awake_c _).mono ?_; rintro e w' ⟨rfl, hg⟩; (try replace hg := hg.of_drew); (first | (have f1 := hg.new (Nat.zero_lt_succ _); replace hg := hg.of_alloc) | (replace hg := hg.of_alloc) | skip); (try replace f1 := hg.cells f1 (Nat.zero_lt_succ _)); (try clear l1); (try have l1 := cells_lt f1 (Nat.zero_lt_succ _)); replace hG := hG.trans hg; clear hg))
    go_ret
    exact ⟨rfl, hG⟩
set_option maxHeartbeats 2000000 in
theorem numRests_least (w : World)
    (cF : ∀ w, Calls Try.prog 20 #[.agg #[.bool true, .int .i64 (-9223372036854775808), .int .u64 0], .agg #[.bool true, .int .i64 (-1), .int .u64 0]] w fun e w' => e = .returned (.tuple #[.agg #[.bool false, .int .i64 0, .int .u64 0], .int .i64 10]) ∧ Gr w w')
    (cM : ∀ w, Calls Try.prog 22 #[.agg #[.bool true, .int .i64 (-9223372036854775808), .int .u64 0], .agg #[.bool true, .int .i64 (-1), .int .u64 0]] w fun e w' => e = .returned (.tuple #[.agg #[.bool true, .int .i64 0, .int .u64 0], .int .i64 0]) ∧ Gr w w') :
    Calls Try.prog 8 #[.int .i64 (-9223372036854775808), .int .i64 (-1)] w fun e w' => e = .returned (.bool true) ∧ Gr w w' := by
  have hG := Gr.refl w
  go_enter Try.func8, Try.ntmps8
  go_wp2_with (first | (go_at_call 35; refine (lawWhole_c _ _).mono ?_; rintro e w' ⟨rfl, hg⟩; (try replace hg := hg.of_drew); (first | (have f1 := hg.new (Nat.zero_lt_succ _); replace hg := hg.of_alloc) | (replace hg := hg.of_alloc) | skip); (try replace f1 := hg.cells f1 (Nat.zero_lt_succ _)); (try clear l1); (try have l1 := cells_lt f1 (Nat.zero_lt_succ _)); replace hG := hG.trans hg; clear hg) | (go_at_call 20; with_reducible refine (cF _).mono ?_; rintro e wQ ⟨rfl, hg⟩; (try replace hg := hg.of_drew); (first | (have f1 := hg.new (Nat.zero_lt_succ _); replace hg := hg.of_alloc) | (replace hg := hg.of_alloc) | skip); (try replace f1 := hg.cells f1 (Nat.zero_lt_succ _)); (try clear l1); (try have l1 := cells_lt f1 (Nat.zero_lt_succ _)); replace hG := hG.trans hg; clear hg) | (go_at_call 22; with_reducible refine (cM _).mono ?_; rintro e wR ⟨rfl, hg⟩; (try replace hg := hg.of_drew); (first | (have f1 := hg.new (Nat.zero_lt_succ _); replace hg := hg.of_alloc) | (replace hg := hg.of_alloc) | skip); (try replace f1 := hg.cells f1 (Nat.zero_lt_succ _)); (try clear l1); (try have l1 := cells_lt f1 (Nat.zero_lt_succ _)); replace hG := hG.trans hg; clear hg))
  generalize hW : World.alloc wR _ = W
  have hg := Gr.of_eq hW
  have f2 := hg.new (Nat.zero_lt_succ _)
  replace hG := hG.trans hg.of_alloc
  clear hg hW
  go_region_held3 (fun w' => ∀ i, w'.cell? ⟨wR.heap.size, i, none⟩ = #[Value.bool true, .int .i64 0, .int .u64 0][i]?) (exact f2) (first | (go_at_call 35; refine (lawWhole_c _ _).mono ?_; rintro e w' ⟨rfl, hg⟩; (try replace hg := hg.of_drew); replace f2 := hg.cells f2 (Nat.zero_lt_succ _); replace hG := hG.trans hg; clear hg) | (go_at_call 19; refine (awake_c _).mono ?_; rintro e w' ⟨rfl, hg⟩; (try replace hg := hg.of_drew); replace f2 := hg.cells f2 (Nat.zero_lt_succ _); replace hG := hG.trans hg; clear hg))
  all_goals go_wp2
  all_goals go_ret
  all_goals exact ⟨rfl, hG⟩
theorem numRests_walk (a0 : Int) (a1 : Int) (w0 : (Lit.int .i64 a0).wf = true) (w1 : (Lit.int .i64 a1).wf = true) (w : World) :
    Calls Try.prog 8 #[.int .i64 a0, .int .i64 a1] w fun e w' => e = .returned (.bool true) ∧ Below w.heap.size w w' := by
  obtain ⟨h0, h0'⟩ := bounds_i64 w0
  obtain ⟨h1, h1'⟩ := bounds_i64 w1
  refine Calls.mono (R := fun e w' => e = .returned (.bool true) ∧ Gr w w') ?_ (fun _ _ ⟨h, g⟩ => ⟨h, g.below⟩)
  have cF := numFloorDiv_c true true a0 0 a1 0 (by omega) (by omega) (by omega) (by omega)
  have cM := numMod_c true true a0 0 a1 0 (by omega) (by omega) (by omega) (by omega)
  have eF : flR true a0 0 true a1 0 = floorR a0 a1 := if_pos ⟨rfl, rfl⟩
  have eM : mdR true a0 0 true a1 0 = modR a0 a1 := if_pos ⟨rfl, rfl⟩
  rw [eF] at cF
  rw [eM] at cM
  unfold floorR at cF
  unfold modR at cM
  by_cases hb : a1 = 0
  · subst hb
    exact numRests_zero a0 w cF cM
  · rw [if_neg hb] at cF cM
    by_cases hl : a0 = -9223372036854775808 ∧ a1 = -1
    · obtain ⟨rfl, rfl⟩ := hl
      rw [fitR_out (by decide)] at cF
      exact numRests_least w cF cM
    · have hf := fl_fits a0 a1 (by omega) (by omega) hb hl
      rw [fitR_in hf] at cF
      obtain ⟨m1, m2⟩ := mdI_spec a0 a1 hb
      have hk : mdI a0 a1 = a0 - a1 * flI a0 a1 := rfl
      have hl' : (a0 == -9223372036854775808) = false ∨ ((a0 == -9223372036854775808) = true ∧ (a1 == -1) = false) := by
        by_cases h : a0 = -9223372036854775808
        · refine Or.inr ⟨by simpa using h, ?_⟩
          have : a1 ≠ -1 := fun g => hl ⟨h, g⟩
          simpa using this
        · exact Or.inl (by simpa using h)
      refine numRests_core a0 a1 (flI a0 a1) (mdI a0 a1) _ a0 w (by simpa using hb) hl' rfl ?_ (by simp) (by omega) cF cM
      obtain ⟨k, k1, k2, k3⟩ := wrap_cases (flI a0 a1 * a1)
      rw [Int.mul_comm a1] at hk
      rw [k1, hk]
      rw [IntKind.wrap_i64]
      generalize flI a0 a1 * a1 = Q at *
      omega
end Go.Proofs.Ytpbcplgpbafjpaa.W
