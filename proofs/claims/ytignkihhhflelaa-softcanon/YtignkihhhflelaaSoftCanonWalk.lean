/- The walk of the statement SoftCanon: it returns true at every two patterns, whole number and number of 32 bits. -/
import Derived.Test.YtignkihhhflelaaAwake
import Derived.Test.YtignkihhhflelaaWidths
import Derived.OpenShut
import Derived.RowKit3
namespace Go.Proofs.Ytignkihhhflelaa.W
open Go.ChangeShapes Go.WideShapes Go.RowKit

theorem Grown.drewN {W w' : World} (h : Grown W w') (m : Nat) : Grown W (w'.drewN m) := h
set_option maxHeartbeats 4000000 in
theorem softCanon_walk (a0 : Int) (a1 : Int) (a2 : Int) (a3 : Int) (w0 : (Lit.int .u64 a0).wf = true) (w1 : (Lit.int .u64 a1).wf = true) (_w2 : (Lit.int .i64 a2).wf = true) (w3 : (Lit.int .u32 a3).wf = true) (w : World) :
    Calls Try.prog 6 #[.int .u64 a0, .int .u64 a1, .int .i64 a2, .int .u32 a3] w fun e w' => e = .returned (.bool true) ∧ Grown w w' := by
  obtain ⟨h0, h0''⟩ := bounds_u64 w0
  obtain ⟨h1, h1''⟩ := bounds_u64 w1
  obtain ⟨h3, h3'⟩ := bounds_u32 w3
  have h0' : a0 < 18446744073709551616 := by omega
  have h1' : a1 < 18446744073709551616 := by omega
  clear w0 w1 w3
  have hNN : nanB a0 = false → ∀ w, Calls Try.prog 17 #[.int .u64 (negI a0)] w fun e w' => e = .returned (.int .u64 a0) ∧ w' = w := by
    intro hn w
    have := softNeg_c (negI a0) (negI_range a0 h0 h0').1 (negI_range a0 h0 h0').2 w
    rwa [neg_neg a0 h0 h0' hn] at this
  have hNC : nanB a0 = true → negI a0 = 9221120237041090560 := fun h => negI_canon a0 (by rw [negI_nan]; exact h)
  have cN1 : ∀ w, Calls Try.prog 17 #[.int .u64 a1] w fun e w' => e = .returned (.int .u64 (negI a1)) ∧ w' = w := softNeg_c a1 h1 h1'
  have cAR : ∀ w, Calls Try.prog 9 #[.int .u64 a1, .int .u64 a0] w fun e w' => e = .returned (.int .u64 (opI .add a0 a1)) ∧ ∃ m, w' = w.drewN m := by
    intro w; rw [add_comm a0 a1]; exact softAdd_c a1 a0 w
  have cMR : ∀ w, Calls Try.prog 13 #[.int .u64 a1, .int .u64 a0] w fun e w' => e = .returned (.int .u64 (opI .mul a0 a1)) ∧ ∃ m, w' = w.drewN m := by
    intro w; rw [mul_comm a0 a1]; exact softMul_c a1 a0 w
  have cAN : ∀ w, Calls Try.prog 9 #[.int .u64 a0, .int .u64 (negI a1)] w fun e w' => e = .returned (.int .u64 (opI .sub a0 a1)) ∧ ∃ m, w' = w.drewN m := by
    intro w; rw [← sub_add a0 a1 h1 h1']; exact softAdd_c a0 (negI a1) w
  have c0 : ∀ w, Calls Try.prog 9 #[.int .u64 a0, .int .u64 a1] w fun e w' => e = .returned (.int .u64 (opI .add a0 a1)) ∧ ∃ m, w' = w.drewN m := softAdd_c a0 a1
  have r0 := opI_range .add a0 a1
  have n0 : nanB (opI .add a0 a1) = true → opI .add a0 a1 = 9221120237041090560 := opI_plain .add a0 a1
  generalize opI .add a0 a1 = v0 at *
  have c1 : ∀ w, Calls Try.prog 11 #[.int .u64 a0, .int .u64 a1] w fun e w' => e = .returned (.int .u64 (opI .sub a0 a1)) ∧ ∃ m, w' = w.drewN m := softSub_c a0 a1
  have r1 := opI_range .sub a0 a1
  have n1 : nanB (opI .sub a0 a1) = true → opI .sub a0 a1 = 9221120237041090560 := opI_plain .sub a0 a1
  generalize opI .sub a0 a1 = v1 at *
  have c2 : ∀ w, Calls Try.prog 13 #[.int .u64 a0, .int .u64 a1] w fun e w' => e = .returned (.int .u64 (opI .mul a0 a1)) ∧ ∃ m, w' = w.drewN m := softMul_c a0 a1
  have r2 := opI_range .mul a0 a1
  have n2 : nanB (opI .mul a0 a1) = true → opI .mul a0 a1 = 9221120237041090560 := opI_plain .mul a0 a1
  generalize opI .mul a0 a1 = v2 at *
  have c3 : ∀ w, Calls Try.prog 15 #[.int .u64 a0, .int .u64 a1] w fun e w' => e = .returned (.int .u64 (opI .quo a0 a1)) ∧ ∃ m, w' = w.drewN m := softDiv_c a0 a1
  have r3 := opI_range .quo a0 a1
  have n3 : nanB (opI .quo a0 a1) = true → opI .quo a0 a1 = 9221120237041090560 := opI_plain .quo a0 a1
  generalize opI .quo a0 a1 = v3 at *
  have c4 : ∀ w, Calls Try.prog 17 #[.int .u64 a0] w fun e w' => e = .returned (.int .u64 (negI a0)) ∧ w' = w := softNeg_c a0 h0 h0'
  have r4 := negI_range a0 h0 h0'
  have n4 : nanB (negI a0) = true → negI a0 = 9221120237041090560 := negI_canon a0
  generalize negI a0 = v4 at *
  have c5 : ∀ w, Calls Try.prog 19 #[.int .u64 a0] w fun e w' => e = .returned (.int .u64 (floorI a0)) ∧ ∃ m, w' = w.drewN m := softFloor_c a0 h0
  have r5 := floorI_range a0
  have n5 : nanB (floorI a0) = true → floorI a0 = 9221120237041090560 := floorI_canon a0 h0
  generalize floorI a0 = v5 at *
  have c6 : ∀ w, Calls Try.prog 24 #[.int .i64 a2] w fun e w' => e = .returned (.int .u64 (fromI a2)) ∧ w' = w := softFromInt_c a2
  have r6 := fromI_range a2
  have n6 : nanB (fromI a2) = true → fromI a2 = 9221120237041090560 := (fun h => by rw [fromI_nan] at h; cases h)
  generalize fromI a2 = v6 at *
  have c7 : ∀ w, Calls Try.prog 28 #[.int .u32 a3] w fun e w' => e = .returned (.int .u64 (wideI a3)) ∧ ∃ m, w' = w.drewN m := softWide_c a3 (by omega)
  have r7 := wideI_range a3
  have n7 : nanB (wideI a3) = true → wideI a3 = 9221120237041090560 := wideI_canon a3
  generalize wideI a3 = v7 at *
  generalize negI a1 = b1 at *
  have hD : (nanB a0 = false ∧ ∀ w, Calls Try.prog 17 #[.int .u64 v4] w fun e w' => e = .returned (.int .u64 a0) ∧ w' = w) ∨ (nanB a0 = true ∧ v4 = 9221120237041090560) := by
    cases hn : nanB a0 with
    | false => exact Or.inl ⟨rfl, hNN hn⟩
    | true => exact Or.inr ⟨rfl, hNC hn⟩
  clear hNN hNC
  go_enter Try.func6, Try.ntmps6
  go_wp2_with (first | (go_at_call 9; with_reducible refine (c0 _).mono ?_; rintro e w' ⟨rfl, m, rfl⟩) | (go_at_call 11; with_reducible refine (c1 _).mono ?_; rintro e w' ⟨rfl, m, rfl⟩) | (go_at_call 13; with_reducible refine (c2 _).mono ?_; rintro e w' ⟨rfl, m, rfl⟩) | (go_at_call 15; with_reducible refine (c3 _).mono ?_; rintro e w' ⟨rfl, m, rfl⟩) | (go_at_call 17; with_reducible refine (c4 _).mono ?_; rintro e w' ⟨rfl, rfl⟩) | (go_at_call 19; with_reducible refine (c5 _).mono ?_; rintro e w' ⟨rfl, m, rfl⟩) | (go_at_call 24; with_reducible refine (c6 _).mono ?_; rintro e w' ⟨rfl, rfl⟩) | (go_at_call 28; with_reducible refine (c7 _).mono ?_; rintro e w' ⟨rfl, m, rfl⟩))
  generalize hW : World.alloc (World.drewN w _) _ = W
  have hG : Grown w W := by rw [← hW]; exact Grown.alloc (Grown.drewN (Grown.refl _) _) _ _
  have g : ∀ k : Nat, W.cell? ⟨w.heap.size, k, none⟩ = (#[.int .u64 v0, .int .u64 v1, .int .u64 v2, .int .u64 v3, .int .u64 v4, .int .u64 v5, .int .u64 v6, .int .u64 v7] : Array Value)[k]? := fun k => by rw [← hW]; exact World.cell?_alloc_at (w := w.drewN _) _ _ _ k rfl
  have g0 : W.cell? ⟨w.heap.size, 0, none⟩ = some (.int .u64 v0) := g 0
  have g1 : W.cell? ⟨w.heap.size, 1, none⟩ = some (.int .u64 v1) := g 1
  have g2 : W.cell? ⟨w.heap.size, 2, none⟩ = some (.int .u64 v2) := g 2
  have g3 : W.cell? ⟨w.heap.size, 3, none⟩ = some (.int .u64 v3) := g 3
  have g4 : W.cell? ⟨w.heap.size, 4, none⟩ = some (.int .u64 v4) := g 4
  have g5 : W.cell? ⟨w.heap.size, 5, none⟩ = some (.int .u64 v5) := g 5
  have g6 : W.cell? ⟨w.heap.size, 6, none⟩ = some (.int .u64 v6) := g 6
  have g7 : W.cell? ⟨w.heap.size, 7, none⟩ = some (.int .u64 v7) := g 7
  clear hW g
  go_loop [10] (fun i => ∃ j : Nat, j ≤ 8 ∧ i = .int .i64 j) (fun i => 8 - (intOf i).toNat)
  case atStart => exact ⟨0, by omega, rfl⟩
  case round =>
    obtain ⟨j, hj, rfl⟩ := hrel
    by_cases hlt : j < 8
    · clear c0 c1 c2 c3 c4 c5 c6 c7 cAR cMR cAN cN1 hD hG h0 h0' h0'' h1 h1' h1'' h3 h3'
      have hc : j = 0 ∨ j = 1 ∨ j = 2 ∨ j = 3 ∨ j = 4 ∨ j = 5 ∨ j = 6 ∨ j = 7 := by omega
      rcases hc with rfl | rfl | rfl | rfl | rfl | rfl | rfl | rfl
      · clear g1 r1 n1 g2 r2 n2 g3 r3 n3 g4 r4 n4 g5 r5 n5 g6 r6 n6 g7 r7 n7
        cases hv : nanB v0 with
        | true =>
          have hz := n0 hv
          subst hz
          go_wp2_with (go_at_call 36; refine (refNaN_c _ (by omega) (by omega) _).mono ?_; rw [hv]; rintro e w' ⟨rfl, rfl⟩)
          go_round
          case rel => exact ⟨1, by omega, by go_num⟩
          case measure => simp [intOf]
        | false =>
          go_wp2_with (go_at_call 36; refine (refNaN_c _ (by omega) (by omega) _).mono ?_; rw [hv]; rintro e w' ⟨rfl, rfl⟩)
          go_round
          case rel => exact ⟨1, by omega, by go_num⟩
          case measure => simp [intOf]
      · clear g0 r0 n0 g2 r2 n2 g3 r3 n3 g4 r4 n4 g5 r5 n5 g6 r6 n6 g7 r7 n7
        cases hv : nanB v1 with
        | true =>
          have hz := n1 hv
          subst hz
          go_wp2_with (go_at_call 36; refine (refNaN_c _ (by omega) (by omega) _).mono ?_; rw [hv]; rintro e w' ⟨rfl, rfl⟩)
          go_round
          case rel => exact ⟨2, by omega, by go_num⟩
          case measure => simp [intOf]
        | false =>
          go_wp2_with (go_at_call 36; refine (refNaN_c _ (by omega) (by omega) _).mono ?_; rw [hv]; rintro e w' ⟨rfl, rfl⟩)
          go_round
          case rel => exact ⟨2, by omega, by go_num⟩
          case measure => simp [intOf]
      · clear g0 r0 n0 g1 r1 n1 g3 r3 n3 g4 r4 n4 g5 r5 n5 g6 r6 n6 g7 r7 n7
        cases hv : nanB v2 with
        | true =>
          have hz := n2 hv
          subst hz
          go_wp2_with (go_at_call 36; refine (refNaN_c _ (by omega) (by omega) _).mono ?_; rw [hv]; rintro e w' ⟨rfl, rfl⟩)
          go_round
          case rel => exact ⟨3, by omega, by go_num⟩
          case measure => simp [intOf]
        | false =>
          go_wp2_with (go_at_call 36; refine (refNaN_c _ (by omega) (by omega) _).mono ?_; rw [hv]; rintro e w' ⟨rfl, rfl⟩)
          go_round
          case rel => exact ⟨3, by omega, by go_num⟩
          case measure => simp [intOf]
      · clear g0 r0 n0 g1 r1 n1 g2 r2 n2 g4 r4 n4 g5 r5 n5 g6 r6 n6 g7 r7 n7
        cases hv : nanB v3 with
        | true =>
          have hz := n3 hv
          subst hz
          go_wp2_with (go_at_call 36; refine (refNaN_c _ (by omega) (by omega) _).mono ?_; rw [hv]; rintro e w' ⟨rfl, rfl⟩)
          go_round
          case rel => exact ⟨4, by omega, by go_num⟩
          case measure => simp [intOf]
        | false =>
          go_wp2_with (go_at_call 36; refine (refNaN_c _ (by omega) (by omega) _).mono ?_; rw [hv]; rintro e w' ⟨rfl, rfl⟩)
          go_round
          case rel => exact ⟨4, by omega, by go_num⟩
          case measure => simp [intOf]
      · clear g0 r0 n0 g1 r1 n1 g2 r2 n2 g3 r3 n3 g5 r5 n5 g6 r6 n6 g7 r7 n7
        cases hv : nanB v4 with
        | true =>
          have hz := n4 hv
          subst hz
          go_wp2_with (go_at_call 36; refine (refNaN_c _ (by omega) (by omega) _).mono ?_; rw [hv]; rintro e w' ⟨rfl, rfl⟩)
          go_round
          case rel => exact ⟨5, by omega, by go_num⟩
          case measure => simp [intOf]
        | false =>
          go_wp2_with (go_at_call 36; refine (refNaN_c _ (by omega) (by omega) _).mono ?_; rw [hv]; rintro e w' ⟨rfl, rfl⟩)
          go_round
          case rel => exact ⟨5, by omega, by go_num⟩
          case measure => simp [intOf]
      · clear g0 r0 n0 g1 r1 n1 g2 r2 n2 g3 r3 n3 g4 r4 n4 g6 r6 n6 g7 r7 n7
        cases hv : nanB v5 with
        | true =>
          have hz := n5 hv
          subst hz
          go_wp2_with (go_at_call 36; refine (refNaN_c _ (by omega) (by omega) _).mono ?_; rw [hv]; rintro e w' ⟨rfl, rfl⟩)
          go_round
          case rel => exact ⟨6, by omega, by go_num⟩
          case measure => simp [intOf]
        | false =>
          go_wp2_with (go_at_call 36; refine (refNaN_c _ (by omega) (by omega) _).mono ?_; rw [hv]; rintro e w' ⟨rfl, rfl⟩)
          go_round
          case rel => exact ⟨6, by omega, by go_num⟩
          case measure => simp [intOf]
      · clear g0 r0 n0 g1 r1 n1 g2 r2 n2 g3 r3 n3 g4 r4 n4 g5 r5 n5 g7 r7 n7
        cases hv : nanB v6 with
        | true =>
          have hz := n6 hv
          subst hz
          go_wp2_with (go_at_call 36; refine (refNaN_c _ (by omega) (by omega) _).mono ?_; rw [hv]; rintro e w' ⟨rfl, rfl⟩)
          go_round
          case rel => exact ⟨7, by omega, by go_num⟩
          case measure => simp [intOf]
        | false =>
          go_wp2_with (go_at_call 36; refine (refNaN_c _ (by omega) (by omega) _).mono ?_; rw [hv]; rintro e w' ⟨rfl, rfl⟩)
          go_round
          case rel => exact ⟨7, by omega, by go_num⟩
          case measure => simp [intOf]
      · clear g0 r0 n0 g1 r1 n1 g2 r2 n2 g3 r3 n3 g4 r4 n4 g5 r5 n5 g6 r6 n6
        cases hv : nanB v7 with
        | true =>
          have hz := n7 hv
          subst hz
          go_wp2_with (go_at_call 36; refine (refNaN_c _ (by omega) (by omega) _).mono ?_; rw [hv]; rintro e w' ⟨rfl, rfl⟩)
          go_round
          case rel => exact ⟨8, by omega, by go_num⟩
          case measure => simp [intOf]
        | false =>
          go_wp2_with (go_at_call 36; refine (refNaN_c _ (by omega) (by omega) _).mono ?_; rw [hv]; rintro e w' ⟨rfl, rfl⟩)
          go_round
          case rel => exact ⟨8, by omega, by go_num⟩
          case measure => simp [intOf]
    · have e8 : j = 8 := by omega
      subst e8
      go_wp2
      go_quiet (first | (go_at_call 9; with_reducible exact Calls.quiet_of (cAR _)) | (go_at_call 9; with_reducible exact Calls.quiet_of (cAN _)) | (go_at_call 13; with_reducible exact Calls.quiet_of (cMR _)) | (go_at_call 17; with_reducible exact Calls.quiet_of_same (cN1 _)))
      rcases hD with ⟨hn, hN⟩ | ⟨hn, hN⟩
      · go_wp2_with (first | (go_at_call 36; refine (refNaN_c _ (by omega) (by omega) _).mono ?_; rw [hn]; rintro e w' ⟨rfl, rfl⟩) | (go_at_call 17; with_reducible refine (hN _).mono ?_; rintro e w' ⟨rfl, rfl⟩) | (go_at_call 21; refine (awake_c _).mono ?_; rintro e w' ⟨rfl, m, rfl⟩))
        go_ret
        exact ⟨rfl, Grown.drewN hG _⟩
      · subst hN
        go_wp2_with (first | (go_at_call 36; refine (refNaN_c _ (by omega) (by omega) _).mono ?_; rw [hn]; rintro e w' ⟨rfl, rfl⟩) | (go_at_call 21; refine (awake_c _).mono ?_; rintro e w' ⟨rfl, m, rfl⟩))
        go_ret
        exact ⟨rfl, Grown.drewN hG _⟩
end Go.Proofs.Ytignkihhhflelaa.W
