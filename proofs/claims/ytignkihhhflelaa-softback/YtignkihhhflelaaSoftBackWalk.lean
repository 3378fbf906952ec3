/- The walk of the statement SoftBack: it returns true at every two patterns, whole number and number of 32 bits. -/
import Derived.Test.YtignkihhhflelaaAwake
import Derived.Test.YtignkihhhflelaaWidths
import Derived.Test.YtignkihhhflelaaF4
import Derived.OpenShut
import Derived.RowKit3
namespace Go.Proofs.Ytignkihhhflelaa.W
open Go.ChangeShapes Go.WideShapes Go.RowKit

theorem Grown.drewN {W w' : World} (h : Grown W w') (m : Nat) : Grown W (w'.drewN m) := h
set_option maxHeartbeats 8000000 in
theorem softBack_core (a0 a1 a2 a3 v : Int) (l s m : Bool) (w : World) (h0 : 0 ≤ a0) (h0' : a0 < 18446744073709551616) (h1 : 0 ≤ a1) (h1' : a1 < 18446744073709551616)
    (cW : ∀ w, Calls Try.prog 28 #[.int .u32 a3] w fun e w' => e = .returned (.int .u64 v) ∧ ∃ m, w' = w.drewN m)
    (hA : v = 9221120237041090560 ∨ (v ≠ 9221120237041090560 ∧ ∀ w, Calls Try.prog 26 #[.int .u64 v] w fun e w' => e = .returned (.int .u32 a3) ∧ w' = w))
    (hB : a2 < -9007199254740992 ∨ 9007199254740992 < a2 ∨ (-9007199254740992 ≤ a2 ∧ a2 ≤ 9007199254740992 ∧ ∃ f, (∀ w, Calls Try.prog 24 #[.int .i64 a2] w fun e w' => e = .returned (.int .u64 f) ∧ w' = w) ∧ ∀ w, Calls Try.prog 22 #[.int .u64 f] w fun e w' => e = .returned (.tuple #[.int .i64 a2, .int .i64 0]) ∧ w' = w))
    (cL : ∀ w, Calls Try.prog 30 #[.int .u64 a0, .int .u64 a1] w fun e w' => e = .returned (.bool l) ∧ w' = w)
    (cE : ∀ w, Calls Try.prog 34 #[.int .u64 a0, .int .u64 a1] w fun e w' => e = .returned (.bool s) ∧ w' = w)
    (cM : ∀ w, Calls Try.prog 30 #[.int .u64 a1, .int .u64 a0] w fun e w' => e = .returned (.bool m) ∧ w' = w)
    (cLE : ∀ w, Calls Try.prog 32 #[.int .u64 a0, .int .u64 a1] w fun e w' => e = .returned (.bool (l || s)) ∧ w' = w)
    (hC : (l = false ∧ s = false ∧ m = false ∧ (nanB a0 = true ∨ (nanB a0 = false ∧ nanB a1 = true))) ∨
      (nanB a0 = false ∧ nanB a1 = false ∧ ((l = true ∧ s = false ∧ m = false) ∨ (l = false ∧ s = true ∧ m = false) ∨ (l = false ∧ s = false ∧ m = true)) ∧ ∃ f, (∀ w, Calls Try.prog 19 #[.int .u64 a0] w fun e w' => e = .returned (.int .u64 f) ∧ ∃ m, w' = w.drewN m) ∧ (∀ w, Calls Try.prog 19 #[.int .u64 f] w fun e w' => e = .returned (.int .u64 f) ∧ ∃ m, w' = w.drewN m) ∧ ∀ w, Calls Try.prog 32 #[.int .u64 f, .int .u64 a0] w fun e w' => e = .returned (.bool true) ∧ w' = w)) :
    Calls Try.prog 7 #[.int .u64 a0, .int .u64 a1, .int .i64 a2, .int .u32 a3] w fun e w' => e = .returned (.bool true) ∧ Grown w w' := by
  rcases hA with rfl | ⟨hv, cN⟩
  · rcases hB with hb | hb | ⟨hb, hb', f, cF, cT⟩
    · rcases hC with ⟨rfl, rfl, rfl, n0 | ⟨n0, n1⟩⟩ | ⟨n0, n1, ⟨rfl, rfl, rfl⟩ | ⟨rfl, rfl, rfl⟩ | ⟨rfl, rfl, rfl⟩, fl, cFl, cFF, cLF⟩
      · go_enter Try.func7, Try.ntmps7
        go_wp2_with (first | (go_at_call 28; with_reducible refine (cW _).mono ?_; rintro e w' ⟨rfl, m, rfl⟩) | (go_at_call 30; with_reducible refine (cL _).mono ?_; rintro e w' ⟨rfl, rfl⟩) | (go_at_call 30; with_reducible refine (cM _).mono ?_; rintro e w' ⟨rfl, rfl⟩) | (go_at_call 34; with_reducible refine (cE _).mono ?_; rintro e w' ⟨rfl, rfl⟩) | (go_at_call 32; with_reducible refine (cLE _).mono ?_; rintro e w' ⟨rfl, rfl⟩))
        generalize hW : World.alloc (World.drewN w _) _ = W
        have hG : Grown w W := by rw [← hW]; exact Grown.alloc (Grown.drewN (Grown.refl _) _) _ _
        have g0 : W.cell? ⟨w.heap.size, 0, none⟩ = some (.bool false) := by rw [← hW]; exact World.cell?_alloc_at (w := w.drewN _) _ _ _ 0 rfl
        have g1 : W.cell? ⟨w.heap.size, 1, none⟩ = some (.bool false) := by rw [← hW]; exact World.cell?_alloc_at (w := w.drewN _) _ _ _ 1 rfl
        have g2 : W.cell? ⟨w.heap.size, 2, none⟩ = some (.bool false) := by rw [← hW]; exact World.cell?_alloc_at (w := w.drewN _) _ _ _ 2 rfl
        clear hW cW cL cM cE cLE
        refine wp_loop_rounds 4 ?_
        rw [rounds_succ]
        go_wp2
        rw [rounds_succ]
        go_wp2
        rw [rounds_succ]
        go_wp2
        rw [rounds_succ]
        go_wp2_with (first | (go_at_call 21; refine (awake_c _).mono ?_; rintro e w' ⟨rfl, m, rfl⟩) | (go_at_call 36; with_reducible refine (refNaN_c a0 (by omega) (by omega) _).mono ?_; rw [n0]; rintro e w' ⟨rfl, rfl⟩))
        go_ret
        exact ⟨rfl, Grown.drewN hG _⟩
      · go_enter Try.func7, Try.ntmps7
        go_wp2_with (first | (go_at_call 28; with_reducible refine (cW _).mono ?_; rintro e w' ⟨rfl, m, rfl⟩) | (go_at_call 30; with_reducible refine (cL _).mono ?_; rintro e w' ⟨rfl, rfl⟩) | (go_at_call 30; with_reducible refine (cM _).mono ?_; rintro e w' ⟨rfl, rfl⟩) | (go_at_call 34; with_reducible refine (cE _).mono ?_; rintro e w' ⟨rfl, rfl⟩) | (go_at_call 32; with_reducible refine (cLE _).mono ?_; rintro e w' ⟨rfl, rfl⟩))
        generalize hW : World.alloc (World.drewN w _) _ = W
        have hG : Grown w W := by rw [← hW]; exact Grown.alloc (Grown.drewN (Grown.refl _) _) _ _
        have g0 : W.cell? ⟨w.heap.size, 0, none⟩ = some (.bool false) := by rw [← hW]; exact World.cell?_alloc_at (w := w.drewN _) _ _ _ 0 rfl
        have g1 : W.cell? ⟨w.heap.size, 1, none⟩ = some (.bool false) := by rw [← hW]; exact World.cell?_alloc_at (w := w.drewN _) _ _ _ 1 rfl
        have g2 : W.cell? ⟨w.heap.size, 2, none⟩ = some (.bool false) := by rw [← hW]; exact World.cell?_alloc_at (w := w.drewN _) _ _ _ 2 rfl
        clear hW cW cL cM cE cLE
        refine wp_loop_rounds 4 ?_
        rw [rounds_succ]
        go_wp2
        rw [rounds_succ]
        go_wp2
        rw [rounds_succ]
        go_wp2
        rw [rounds_succ]
        go_wp2_with (first | (go_at_call 21; refine (awake_c _).mono ?_; rintro e w' ⟨rfl, m, rfl⟩) | (go_at_call 36; with_reducible refine (refNaN_c a0 (by omega) (by omega) _).mono ?_; rw [n0]; rintro e w' ⟨rfl, rfl⟩) | (go_at_call 36; with_reducible refine (refNaN_c a1 (by omega) (by omega) _).mono ?_; rw [n1]; rintro e w' ⟨rfl, rfl⟩))
        go_ret
        exact ⟨rfl, Grown.drewN hG _⟩
      · go_enter Try.func7, Try.ntmps7
        go_wp2_with (first | (go_at_call 28; with_reducible refine (cW _).mono ?_; rintro e w' ⟨rfl, m, rfl⟩) | (go_at_call 30; with_reducible refine (cL _).mono ?_; rintro e w' ⟨rfl, rfl⟩) | (go_at_call 30; with_reducible refine (cM _).mono ?_; rintro e w' ⟨rfl, rfl⟩) | (go_at_call 34; with_reducible refine (cE _).mono ?_; rintro e w' ⟨rfl, rfl⟩) | (go_at_call 32; with_reducible refine (cLE _).mono ?_; rintro e w' ⟨rfl, rfl⟩))
        generalize hW : World.alloc (World.drewN w _) _ = W
        have hG : Grown w W := by rw [← hW]; exact Grown.alloc (Grown.drewN (Grown.refl _) _) _ _
        have g0 : W.cell? ⟨w.heap.size, 0, none⟩ = some (.bool true) := by rw [← hW]; exact World.cell?_alloc_at (w := w.drewN _) _ _ _ 0 rfl
        have g1 : W.cell? ⟨w.heap.size, 1, none⟩ = some (.bool false) := by rw [← hW]; exact World.cell?_alloc_at (w := w.drewN _) _ _ _ 1 rfl
        have g2 : W.cell? ⟨w.heap.size, 2, none⟩ = some (.bool false) := by rw [← hW]; exact World.cell?_alloc_at (w := w.drewN _) _ _ _ 2 rfl
        clear hW cW cL cM cE cLE
        refine wp_loop_rounds 4 ?_
        rw [rounds_succ]
        go_wp2
        rw [rounds_succ]
        go_wp2
        rw [rounds_succ]
        go_wp2
        rw [rounds_succ]
        go_wp2_with (first | (go_at_call 21; refine (awake_c _).mono ?_; rintro e w' ⟨rfl, m, rfl⟩) | (go_at_call 36; with_reducible refine (refNaN_c a0 (by omega) (by omega) _).mono ?_; rw [n0]; rintro e w' ⟨rfl, rfl⟩) | (go_at_call 36; with_reducible refine (refNaN_c a1 (by omega) (by omega) _).mono ?_; rw [n1]; rintro e w' ⟨rfl, rfl⟩) | (go_at_call 19; with_reducible refine (cFl _).mono ?_; rintro e w' ⟨rfl, m, rfl⟩) | (go_at_call 19; with_reducible refine (cFF _).mono ?_; rintro e w' ⟨rfl, m, rfl⟩) | (go_at_call 32; with_reducible refine (cLF _).mono ?_; rintro e w' ⟨rfl, rfl⟩))
        go_ret
        exact ⟨rfl, Grown.drewN hG _⟩
      · go_enter Try.func7, Try.ntmps7
        go_wp2_with (first | (go_at_call 28; with_reducible refine (cW _).mono ?_; rintro e w' ⟨rfl, m, rfl⟩) | (go_at_call 30; with_reducible refine (cL _).mono ?_; rintro e w' ⟨rfl, rfl⟩) | (go_at_call 30; with_reducible refine (cM _).mono ?_; rintro e w' ⟨rfl, rfl⟩) | (go_at_call 34; with_reducible refine (cE _).mono ?_; rintro e w' ⟨rfl, rfl⟩) | (go_at_call 32; with_reducible refine (cLE _).mono ?_; rintro e w' ⟨rfl, rfl⟩))
        generalize hW : World.alloc (World.drewN w _) _ = W
        have hG : Grown w W := by rw [← hW]; exact Grown.alloc (Grown.drewN (Grown.refl _) _) _ _
        have g0 : W.cell? ⟨w.heap.size, 0, none⟩ = some (.bool false) := by rw [← hW]; exact World.cell?_alloc_at (w := w.drewN _) _ _ _ 0 rfl
        have g1 : W.cell? ⟨w.heap.size, 1, none⟩ = some (.bool true) := by rw [← hW]; exact World.cell?_alloc_at (w := w.drewN _) _ _ _ 1 rfl
        have g2 : W.cell? ⟨w.heap.size, 2, none⟩ = some (.bool false) := by rw [← hW]; exact World.cell?_alloc_at (w := w.drewN _) _ _ _ 2 rfl
        clear hW cW cL cM cE cLE
        refine wp_loop_rounds 4 ?_
        rw [rounds_succ]
        go_wp2
        rw [rounds_succ]
        go_wp2
        rw [rounds_succ]
        go_wp2
        rw [rounds_succ]
        go_wp2_with (first | (go_at_call 21; refine (awake_c _).mono ?_; rintro e w' ⟨rfl, m, rfl⟩) | (go_at_call 36; with_reducible refine (refNaN_c a0 (by omega) (by omega) _).mono ?_; rw [n0]; rintro e w' ⟨rfl, rfl⟩) | (go_at_call 36; with_reducible refine (refNaN_c a1 (by omega) (by omega) _).mono ?_; rw [n1]; rintro e w' ⟨rfl, rfl⟩) | (go_at_call 19; with_reducible refine (cFl _).mono ?_; rintro e w' ⟨rfl, m, rfl⟩) | (go_at_call 19; with_reducible refine (cFF _).mono ?_; rintro e w' ⟨rfl, m, rfl⟩) | (go_at_call 32; with_reducible refine (cLF _).mono ?_; rintro e w' ⟨rfl, rfl⟩))
        go_ret
        exact ⟨rfl, Grown.drewN hG _⟩
      · go_enter Try.func7, Try.ntmps7
        go_wp2_with (first | (go_at_call 28; with_reducible refine (cW _).mono ?_; rintro e w' ⟨rfl, m, rfl⟩) | (go_at_call 30; with_reducible refine (cL _).mono ?_; rintro e w' ⟨rfl, rfl⟩) | (go_at_call 30; with_reducible refine (cM _).mono ?_; rintro e w' ⟨rfl, rfl⟩) | (go_at_call 34; with_reducible refine (cE _).mono ?_; rintro e w' ⟨rfl, rfl⟩) | (go_at_call 32; with_reducible refine (cLE _).mono ?_; rintro e w' ⟨rfl, rfl⟩))
        generalize hW : World.alloc (World.drewN w _) _ = W
        have hG : Grown w W := by rw [← hW]; exact Grown.alloc (Grown.drewN (Grown.refl _) _) _ _
        have g0 : W.cell? ⟨w.heap.size, 0, none⟩ = some (.bool false) := by rw [← hW]; exact World.cell?_alloc_at (w := w.drewN _) _ _ _ 0 rfl
        have g1 : W.cell? ⟨w.heap.size, 1, none⟩ = some (.bool false) := by rw [← hW]; exact World.cell?_alloc_at (w := w.drewN _) _ _ _ 1 rfl
        have g2 : W.cell? ⟨w.heap.size, 2, none⟩ = some (.bool true) := by rw [← hW]; exact World.cell?_alloc_at (w := w.drewN _) _ _ _ 2 rfl
        clear hW cW cL cM cE cLE
        refine wp_loop_rounds 4 ?_
        rw [rounds_succ]
        go_wp2
        rw [rounds_succ]
        go_wp2
        rw [rounds_succ]
        go_wp2
        rw [rounds_succ]
        go_wp2_with (first | (go_at_call 21; refine (awake_c _).mono ?_; rintro e w' ⟨rfl, m, rfl⟩) | (go_at_call 36; with_reducible refine (refNaN_c a0 (by omega) (by omega) _).mono ?_; rw [n0]; rintro e w' ⟨rfl, rfl⟩) | (go_at_call 36; with_reducible refine (refNaN_c a1 (by omega) (by omega) _).mono ?_; rw [n1]; rintro e w' ⟨rfl, rfl⟩) | (go_at_call 19; with_reducible refine (cFl _).mono ?_; rintro e w' ⟨rfl, m, rfl⟩) | (go_at_call 19; with_reducible refine (cFF _).mono ?_; rintro e w' ⟨rfl, m, rfl⟩) | (go_at_call 32; with_reducible refine (cLF _).mono ?_; rintro e w' ⟨rfl, rfl⟩))
        go_ret
        exact ⟨rfl, Grown.drewN hG _⟩
    · rcases hC with ⟨rfl, rfl, rfl, n0 | ⟨n0, n1⟩⟩ | ⟨n0, n1, ⟨rfl, rfl, rfl⟩ | ⟨rfl, rfl, rfl⟩ | ⟨rfl, rfl, rfl⟩, fl, cFl, cFF, cLF⟩
      · go_enter Try.func7, Try.ntmps7
        go_wp2_with (first | (go_at_call 28; with_reducible refine (cW _).mono ?_; rintro e w' ⟨rfl, m, rfl⟩) | (go_at_call 30; with_reducible refine (cL _).mono ?_; rintro e w' ⟨rfl, rfl⟩) | (go_at_call 30; with_reducible refine (cM _).mono ?_; rintro e w' ⟨rfl, rfl⟩) | (go_at_call 34; with_reducible refine (cE _).mono ?_; rintro e w' ⟨rfl, rfl⟩) | (go_at_call 32; with_reducible refine (cLE _).mono ?_; rintro e w' ⟨rfl, rfl⟩))
        generalize hW : World.alloc (World.drewN w _) _ = W
        have hG : Grown w W := by rw [← hW]; exact Grown.alloc (Grown.drewN (Grown.refl _) _) _ _
        have g0 : W.cell? ⟨w.heap.size, 0, none⟩ = some (.bool false) := by rw [← hW]; exact World.cell?_alloc_at (w := w.drewN _) _ _ _ 0 rfl
        have g1 : W.cell? ⟨w.heap.size, 1, none⟩ = some (.bool false) := by rw [← hW]; exact World.cell?_alloc_at (w := w.drewN _) _ _ _ 1 rfl
        have g2 : W.cell? ⟨w.heap.size, 2, none⟩ = some (.bool false) := by rw [← hW]; exact World.cell?_alloc_at (w := w.drewN _) _ _ _ 2 rfl
        clear hW cW cL cM cE cLE
        refine wp_loop_rounds 4 ?_
        rw [rounds_succ]
        go_wp2
        rw [rounds_succ]
        go_wp2
        rw [rounds_succ]
        go_wp2
        rw [rounds_succ]
        go_wp2_with (first | (go_at_call 21; refine (awake_c _).mono ?_; rintro e w' ⟨rfl, m, rfl⟩) | (go_at_call 36; with_reducible refine (refNaN_c a0 (by omega) (by omega) _).mono ?_; rw [n0]; rintro e w' ⟨rfl, rfl⟩))
        go_ret
        exact ⟨rfl, Grown.drewN hG _⟩
      · go_enter Try.func7, Try.ntmps7
        go_wp2_with (first | (go_at_call 28; with_reducible refine (cW _).mono ?_; rintro e w' ⟨rfl, m, rfl⟩) | (go_at_call 30; with_reducible refine (cL _).mono ?_; rintro e w' ⟨rfl, rfl⟩) | (go_at_call 30; with_reducible refine (cM _).mono ?_; rintro e w' ⟨rfl, rfl⟩) | (go_at_call 34; with_reducible refine (cE _).mono ?_; rintro e w' ⟨rfl, rfl⟩) | (go_at_call 32; with_reducible refine (cLE _).mono ?_; rintro e w' ⟨rfl, rfl⟩))
        generalize hW : World.alloc (World.drewN w _) _ = W
        have hG : Grown w W := by rw [← hW]; exact Grown.alloc (Grown.drewN (Grown.refl _) _) _ _
        have g0 : W.cell? ⟨w.heap.size, 0, none⟩ = some (.bool false) := by rw [← hW]; exact World.cell?_alloc_at (w := w.drewN _) _ _ _ 0 rfl
        have g1 : W.cell? ⟨w.heap.size, 1, none⟩ = some (.bool false) := by rw [← hW]; exact World.cell?_alloc_at (w := w.drewN _) _ _ _ 1 rfl
        have g2 : W.cell? ⟨w.heap.size, 2, none⟩ = some (.bool false) := by rw [← hW]; exact World.cell?_alloc_at (w := w.drewN _) _ _ _ 2 rfl
        clear hW cW cL cM cE cLE
        refine wp_loop_rounds 4 ?_
        rw [rounds_succ]
        go_wp2
        rw [rounds_succ]
        go_wp2
        rw [rounds_succ]
        go_wp2
        rw [rounds_succ]
        go_wp2_with (first | (go_at_call 21; refine (awake_c _).mono ?_; rintro e w' ⟨rfl, m, rfl⟩) | (go_at_call 36; with_reducible refine (refNaN_c a0 (by omega) (by omega) _).mono ?_; rw [n0]; rintro e w' ⟨rfl, rfl⟩) | (go_at_call 36; with_reducible refine (refNaN_c a1 (by omega) (by omega) _).mono ?_; rw [n1]; rintro e w' ⟨rfl, rfl⟩))
        go_ret
        exact ⟨rfl, Grown.drewN hG _⟩
      · go_enter Try.func7, Try.ntmps7
        go_wp2_with (first | (go_at_call 28; with_reducible refine (cW _).mono ?_; rintro e w' ⟨rfl, m, rfl⟩) | (go_at_call 30; with_reducible refine (cL _).mono ?_; rintro e w' ⟨rfl, rfl⟩) | (go_at_call 30; with_reducible refine (cM _).mono ?_; rintro e w' ⟨rfl, rfl⟩) | (go_at_call 34; with_reducible refine (cE _).mono ?_; rintro e w' ⟨rfl, rfl⟩) | (go_at_call 32; with_reducible refine (cLE _).mono ?_; rintro e w' ⟨rfl, rfl⟩))
        generalize hW : World.alloc (World.drewN w _) _ = W
        have hG : Grown w W := by rw [← hW]; exact Grown.alloc (Grown.drewN (Grown.refl _) _) _ _
        have g0 : W.cell? ⟨w.heap.size, 0, none⟩ = some (.bool true) := by rw [← hW]; exact World.cell?_alloc_at (w := w.drewN _) _ _ _ 0 rfl
        have g1 : W.cell? ⟨w.heap.size, 1, none⟩ = some (.bool false) := by rw [← hW]; exact World.cell?_alloc_at (w := w.drewN _) _ _ _ 1 rfl
        have g2 : W.cell? ⟨w.heap.size, 2, none⟩ = some (.bool false) := by rw [← hW]; exact World.cell?_alloc_at (w := w.drewN _) _ _ _ 2 rfl
        clear hW cW cL cM cE cLE
        refine wp_loop_rounds 4 ?_
        rw [rounds_succ]
        go_wp2
        rw [rounds_succ]
        go_wp2
        rw [rounds_succ]
        go_wp2
        rw [rounds_succ]
        go_wp2_with (first | (go_at_call 21; refine (awake_c _).mono ?_; rintro e w' ⟨rfl, m, rfl⟩) | (go_at_call 36; with_reducible refine (refNaN_c a0 (by omega) (by omega) _).mono ?_; rw [n0]; rintro e w' ⟨rfl, rfl⟩) | (go_at_call 36; with_reducible refine (refNaN_c a1 (by omega) (by omega) _).mono ?_; rw [n1]; rintro e w' ⟨rfl, rfl⟩) | (go_at_call 19; with_reducible refine (cFl _).mono ?_; rintro e w' ⟨rfl, m, rfl⟩) | (go_at_call 19; with_reducible refine (cFF _).mono ?_; rintro e w' ⟨rfl, m, rfl⟩) | (go_at_call 32; with_reducible refine (cLF _).mono ?_; rintro e w' ⟨rfl, rfl⟩))
        go_ret
        exact ⟨rfl, Grown.drewN hG _⟩
      · go_enter Try.func7, Try.ntmps7
        go_wp2_with (first | (go_at_call 28; with_reducible refine (cW _).mono ?_; rintro e w' ⟨rfl, m, rfl⟩) | (go_at_call 30; with_reducible refine (cL _).mono ?_; rintro e w' ⟨rfl, rfl⟩) | (go_at_call 30; with_reducible refine (cM _).mono ?_; rintro e w' ⟨rfl, rfl⟩) | (go_at_call 34; with_reducible refine (cE _).mono ?_; rintro e w' ⟨rfl, rfl⟩) | (go_at_call 32; with_reducible refine (cLE _).mono ?_; rintro e w' ⟨rfl, rfl⟩))
        generalize hW : World.alloc (World.drewN w _) _ = W
        have hG : Grown w W := by rw [← hW]; exact Grown.alloc (Grown.drewN (Grown.refl _) _) _ _
        have g0 : W.cell? ⟨w.heap.size, 0, none⟩ = some (.bool false) := by rw [← hW]; exact World.cell?_alloc_at (w := w.drewN _) _ _ _ 0 rfl
        have g1 : W.cell? ⟨w.heap.size, 1, none⟩ = some (.bool true) := by rw [← hW]; exact World.cell?_alloc_at (w := w.drewN _) _ _ _ 1 rfl
        have g2 : W.cell? ⟨w.heap.size, 2, none⟩ = some (.bool false) := by rw [← hW]; exact World.cell?_alloc_at (w := w.drewN _) _ _ _ 2 rfl
        clear hW cW cL cM cE cLE
        refine wp_loop_rounds 4 ?_
        rw [rounds_succ]
        go_wp2
        rw [rounds_succ]
        go_wp2
        rw [rounds_succ]
        go_wp2
        rw [rounds_succ]
        go_wp2_with (first | (go_at_call 21; refine (awake_c _).mono ?_; rintro e w' ⟨rfl, m, rfl⟩) | (go_at_call 36; with_reducible refine (refNaN_c a0 (by omega) (by omega) _).mono ?_; rw [n0]; rintro e w' ⟨rfl, rfl⟩) | (go_at_call 36; with_reducible refine (refNaN_c a1 (by omega) (by omega) _).mono ?_; rw [n1]; rintro e w' ⟨rfl, rfl⟩) | (go_at_call 19; with_reducible refine (cFl _).mono ?_; rintro e w' ⟨rfl, m, rfl⟩) | (go_at_call 19; with_reducible refine (cFF _).mono ?_; rintro e w' ⟨rfl, m, rfl⟩) | (go_at_call 32; with_reducible refine (cLF _).mono ?_; rintro e w' ⟨rfl, rfl⟩))
        go_ret
        exact ⟨rfl, Grown.drewN hG _⟩
      · go_enter Try.func7, Try.ntmps7
        go_wp2_with (first | (go_at_call 28; with_reducible refine (cW _).mono ?_; rintro e w' ⟨rfl, m, rfl⟩) | (go_at_call 30; with_reducible refine (cL _).mono ?_; rintro e w' ⟨rfl, rfl⟩) | (go_at_call 30; with_reducible refine (cM _).mono ?_; rintro e w' ⟨rfl, rfl⟩) | (go_at_call 34; with_reducible refine (cE _).mono ?_; rintro e w' ⟨rfl, rfl⟩) | (go_at_call 32; with_reducible refine (cLE _).mono ?_; rintro e w' ⟨rfl, rfl⟩))
        generalize hW : World.alloc (World.drewN w _) _ = W
        have hG : Grown w W := by rw [← hW]; exact Grown.alloc (Grown.drewN (Grown.refl _) _) _ _
        have g0 : W.cell? ⟨w.heap.size, 0, none⟩ = some (.bool false) := by rw [← hW]; exact World.cell?_alloc_at (w := w.drewN _) _ _ _ 0 rfl
        have g1 : W.cell? ⟨w.heap.size, 1, none⟩ = some (.bool false) := by rw [← hW]; exact World.cell?_alloc_at (w := w.drewN _) _ _ _ 1 rfl
        have g2 : W.cell? ⟨w.heap.size, 2, none⟩ = some (.bool true) := by rw [← hW]; exact World.cell?_alloc_at (w := w.drewN _) _ _ _ 2 rfl
        clear hW cW cL cM cE cLE
        refine wp_loop_rounds 4 ?_
        rw [rounds_succ]
        go_wp2
        rw [rounds_succ]
        go_wp2
        rw [rounds_succ]
        go_wp2
        rw [rounds_succ]
        go_wp2_with (first | (go_at_call 21; refine (awake_c _).mono ?_; rintro e w' ⟨rfl, m, rfl⟩) | (go_at_call 36; with_reducible refine (refNaN_c a0 (by omega) (by omega) _).mono ?_; rw [n0]; rintro e w' ⟨rfl, rfl⟩) | (go_at_call 36; with_reducible refine (refNaN_c a1 (by omega) (by omega) _).mono ?_; rw [n1]; rintro e w' ⟨rfl, rfl⟩) | (go_at_call 19; with_reducible refine (cFl _).mono ?_; rintro e w' ⟨rfl, m, rfl⟩) | (go_at_call 19; with_reducible refine (cFF _).mono ?_; rintro e w' ⟨rfl, m, rfl⟩) | (go_at_call 32; with_reducible refine (cLF _).mono ?_; rintro e w' ⟨rfl, rfl⟩))
        go_ret
        exact ⟨rfl, Grown.drewN hG _⟩
    · rcases hC with ⟨rfl, rfl, rfl, n0 | ⟨n0, n1⟩⟩ | ⟨n0, n1, ⟨rfl, rfl, rfl⟩ | ⟨rfl, rfl, rfl⟩ | ⟨rfl, rfl, rfl⟩, fl, cFl, cFF, cLF⟩
      · go_enter Try.func7, Try.ntmps7
        go_wp2_with (first | (go_at_call 28; with_reducible refine (cW _).mono ?_; rintro e w' ⟨rfl, m, rfl⟩) | (go_at_call 30; with_reducible refine (cL _).mono ?_; rintro e w' ⟨rfl, rfl⟩) | (go_at_call 30; with_reducible refine (cM _).mono ?_; rintro e w' ⟨rfl, rfl⟩) | (go_at_call 34; with_reducible refine (cE _).mono ?_; rintro e w' ⟨rfl, rfl⟩) | (go_at_call 32; with_reducible refine (cLE _).mono ?_; rintro e w' ⟨rfl, rfl⟩) | (go_at_call 24; with_reducible refine (cF _).mono ?_; rintro e w' ⟨rfl, rfl⟩) | (go_at_call 22; with_reducible refine (cT _).mono ?_; rintro e w' ⟨rfl, rfl⟩))
        generalize hW : World.alloc (World.drewN w _) _ = W
        have hG : Grown w W := by rw [← hW]; exact Grown.alloc (Grown.drewN (Grown.refl _) _) _ _
        have g0 : W.cell? ⟨w.heap.size, 0, none⟩ = some (.bool false) := by rw [← hW]; exact World.cell?_alloc_at (w := w.drewN _) _ _ _ 0 rfl
        have g1 : W.cell? ⟨w.heap.size, 1, none⟩ = some (.bool false) := by rw [← hW]; exact World.cell?_alloc_at (w := w.drewN _) _ _ _ 1 rfl
        have g2 : W.cell? ⟨w.heap.size, 2, none⟩ = some (.bool false) := by rw [← hW]; exact World.cell?_alloc_at (w := w.drewN _) _ _ _ 2 rfl
        clear hW cW cL cM cE cLE cF cT
        refine wp_loop_rounds 4 ?_
        rw [rounds_succ]
        go_wp2
        rw [rounds_succ]
        go_wp2
        rw [rounds_succ]
        go_wp2
        rw [rounds_succ]
        go_wp2_with (first | (go_at_call 21; refine (awake_c _).mono ?_; rintro e w' ⟨rfl, m, rfl⟩) | (go_at_call 36; with_reducible refine (refNaN_c a0 (by omega) (by omega) _).mono ?_; rw [n0]; rintro e w' ⟨rfl, rfl⟩))
        go_ret
        exact ⟨rfl, Grown.drewN hG _⟩
      · go_enter Try.func7, Try.ntmps7
        go_wp2_with (first | (go_at_call 28; with_reducible refine (cW _).mono ?_; rintro e w' ⟨rfl, m, rfl⟩) | (go_at_call 30; with_reducible refine (cL _).mono ?_; rintro e w' ⟨rfl, rfl⟩) | (go_at_call 30; with_reducible refine (cM _).mono ?_; rintro e w' ⟨rfl, rfl⟩) | (go_at_call 34; with_reducible refine (cE _).mono ?_; rintro e w' ⟨rfl, rfl⟩) | (go_at_call 32; with_reducible refine (cLE _).mono ?_; rintro e w' ⟨rfl, rfl⟩) | (go_at_call 24; with_reducible refine (cF _).mono ?_; rintro e w' ⟨rfl, rfl⟩) | (go_at_call 22; with_reducible refine (cT _).mono ?_; rintro e w' ⟨rfl, rfl⟩))
        generalize hW : World.alloc (World.drewN w _) _ = W
        have hG : Grown w W := by rw [← hW]; exact Grown.alloc (Grown.drewN (Grown.refl _) _) _ _
        have g0 : W.cell? ⟨w.heap.size, 0, none⟩ = some (.bool false) := by rw [← hW]; exact World.cell?_alloc_at (w := w.drewN _) _ _ _ 0 rfl
        have g1 : W.cell? ⟨w.heap.size, 1, none⟩ = some (.bool false) := by rw [← hW]; exact World.cell?_alloc_at (w := w.drewN _) _ _ _ 1 rfl
        have g2 : W.cell? ⟨w.heap.size, 2, none⟩ = some (.bool false) := by rw [← hW]; exact World.cell?_alloc_at (w := w.drewN _) _ _ _ 2 rfl
        clear hW cW cL cM cE cLE cF cT
        refine wp_loop_rounds 4 ?_
        rw [rounds_succ]
        go_wp2
        rw [rounds_succ]
        go_wp2
        rw [rounds_succ]
        go_wp2
        rw [rounds_succ]
        go_wp2_with (first | (go_at_call 21; refine (awake_c _).mono ?_; rintro e w' ⟨rfl, m, rfl⟩) | (go_at_call 36; with_reducible refine (refNaN_c a0 (by omega) (by omega) _).mono ?_; rw [n0]; rintro e w' ⟨rfl, rfl⟩) | (go_at_call 36; with_reducible refine (refNaN_c a1 (by omega) (by omega) _).mono ?_; rw [n1]; rintro e w' ⟨rfl, rfl⟩))
        go_ret
        exact ⟨rfl, Grown.drewN hG _⟩
      · go_enter Try.func7, Try.ntmps7
        go_wp2_with (first | (go_at_call 28; with_reducible refine (cW _).mono ?_; rintro e w' ⟨rfl, m, rfl⟩) | (go_at_call 30; with_reducible refine (cL _).mono ?_; rintro e w' ⟨rfl, rfl⟩) | (go_at_call 30; with_reducible refine (cM _).mono ?_; rintro e w' ⟨rfl, rfl⟩) | (go_at_call 34; with_reducible refine (cE _).mono ?_; rintro e w' ⟨rfl, rfl⟩) | (go_at_call 32; with_reducible refine (cLE _).mono ?_; rintro e w' ⟨rfl, rfl⟩) | (go_at_call 24; with_reducible refine (cF _).mono ?_; rintro e w' ⟨rfl, rfl⟩) | (go_at_call 22; with_reducible refine (cT _).mono ?_; rintro e w' ⟨rfl, rfl⟩))
        generalize hW : World.alloc (World.drewN w _) _ = W
        have hG : Grown w W := by rw [← hW]; exact Grown.alloc (Grown.drewN (Grown.refl _) _) _ _
        have g0 : W.cell? ⟨w.heap.size, 0, none⟩ = some (.bool true) := by rw [← hW]; exact World.cell?_alloc_at (w := w.drewN _) _ _ _ 0 rfl
        have g1 : W.cell? ⟨w.heap.size, 1, none⟩ = some (.bool false) := by rw [← hW]; exact World.cell?_alloc_at (w := w.drewN _) _ _ _ 1 rfl
        have g2 : W.cell? ⟨w.heap.size, 2, none⟩ = some (.bool false) := by rw [← hW]; exact World.cell?_alloc_at (w := w.drewN _) _ _ _ 2 rfl
        clear hW cW cL cM cE cLE cF cT
        refine wp_loop_rounds 4 ?_
        rw [rounds_succ]
        go_wp2
        rw [rounds_succ]
        go_wp2
        rw [rounds_succ]
        go_wp2
        rw [rounds_succ]
        go_wp2_with (first | (go_at_call 21; refine (awake_c _).mono ?_; rintro e w' ⟨rfl, m, rfl⟩) | (go_at_call 36; with_reducible refine (refNaN_c a0 (by omega) (by omega) _).mono ?_; rw [n0]; rintro e w' ⟨rfl, rfl⟩) | (go_at_call 36; with_reducible refine (refNaN_c a1 (by omega) (by omega) _).mono ?_; rw [n1]; rintro e w' ⟨rfl, rfl⟩) | (go_at_call 19; with_reducible refine (cFl _).mono ?_; rintro e w' ⟨rfl, m, rfl⟩) | (go_at_call 19; with_reducible refine (cFF _).mono ?_; rintro e w' ⟨rfl, m, rfl⟩) | (go_at_call 32; with_reducible refine (cLF _).mono ?_; rintro e w' ⟨rfl, rfl⟩))
        go_ret
        exact ⟨rfl, Grown.drewN hG _⟩
      · go_enter Try.func7, Try.ntmps7
        go_wp2_with (first | (go_at_call 28; with_reducible refine (cW _).mono ?_; rintro e w' ⟨rfl, m, rfl⟩) | (go_at_call 30; with_reducible refine (cL _).mono ?_; rintro e w' ⟨rfl, rfl⟩) | (go_at_call 30; with_reducible refine (cM _).mono ?_; rintro e w' ⟨rfl, rfl⟩) | (go_at_call 34; with_reducible refine (cE _).mono ?_; rintro e w' ⟨rfl, rfl⟩) | (go_at_call 32; with_reducible refine (cLE _).mono ?_; rintro e w' ⟨rfl, rfl⟩) | (go_at_call 24; with_reducible refine (cF _).mono ?_; rintro e w' ⟨rfl, rfl⟩) | (go_at_call 22; with_reducible refine (cT _).mono ?_; rintro e w' ⟨rfl, rfl⟩))
        generalize hW : World.alloc (World.drewN w _) _ = W
        have hG : Grown w W := by rw [← hW]; exact Grown.alloc (Grown.drewN (Grown.refl _) _) _ _
        have g0 : W.cell? ⟨w.heap.size, 0, none⟩ = some (.bool false) := by rw [← hW]; exact World.cell?_alloc_at (w := w.drewN _) _ _ _ 0 rfl
        have g1 : W.cell? ⟨w.heap.size, 1, none⟩ = some (.bool true) := by rw [← hW]; exact World.cell?_alloc_at (w := w.drewN _) _ _ _ 1 rfl
        have g2 : W.cell? ⟨w.heap.size, 2, none⟩ = some (.bool false) := by rw [← hW]; exact World.cell?_alloc_at (w := w.drewN _) _ _ _ 2 rfl
        clear hW cW cL cM cE cLE cF cT
        refine wp_loop_rounds 4 ?_
        rw [rounds_succ]
        go_wp2
        rw [rounds_succ]
        go_wp2
        rw [rounds_succ]
        go_wp2
        rw [rounds_succ]
        go_wp2_with (first | (go_at_call 21; refine (awake_c _).mono ?_; rintro e w' ⟨rfl, m, rfl⟩) | (go_at_call 36; with_reducible refine (refNaN_c a0 (by omega) (by omega) _).mono ?_; rw [n0]; rintro e w' ⟨rfl, rfl⟩) | (go_at_call 36; with_reducible refine (refNaN_c a1 (by omega) (by omega) _).mono ?_; rw [n1]; rintro e w' ⟨rfl, rfl⟩) | (go_at_call 19; with_reducible refine (cFl _).mono ?_; rintro e w' ⟨rfl, m, rfl⟩) | (go_at_call 19; with_reducible refine (cFF _).mono ?_; rintro e w' ⟨rfl, m, rfl⟩) | (go_at_call 32; with_reducible refine (cLF _).mono ?_; rintro e w' ⟨rfl, rfl⟩))
        go_ret
        exact ⟨rfl, Grown.drewN hG _⟩
      · go_enter Try.func7, Try.ntmps7
        go_wp2_with (first | (go_at_call 28; with_reducible refine (cW _).mono ?_; rintro e w' ⟨rfl, m, rfl⟩) | (go_at_call 30; with_reducible refine (cL _).mono ?_; rintro e w' ⟨rfl, rfl⟩) | (go_at_call 30; with_reducible refine (cM _).mono ?_; rintro e w' ⟨rfl, rfl⟩) | (go_at_call 34; with_reducible refine (cE _).mono ?_; rintro e w' ⟨rfl, rfl⟩) | (go_at_call 32; with_reducible refine (cLE _).mono ?_; rintro e w' ⟨rfl, rfl⟩) | (go_at_call 24; with_reducible refine (cF _).mono ?_; rintro e w' ⟨rfl, rfl⟩) | (go_at_call 22; with_reducible refine (cT _).mono ?_; rintro e w' ⟨rfl, rfl⟩))
        generalize hW : World.alloc (World.drewN w _) _ = W
        have hG : Grown w W := by rw [← hW]; exact Grown.alloc (Grown.drewN (Grown.refl _) _) _ _
        have g0 : W.cell? ⟨w.heap.size, 0, none⟩ = some (.bool false) := by rw [← hW]; exact World.cell?_alloc_at (w := w.drewN _) _ _ _ 0 rfl
        have g1 : W.cell? ⟨w.heap.size, 1, none⟩ = some (.bool false) := by rw [← hW]; exact World.cell?_alloc_at (w := w.drewN _) _ _ _ 1 rfl
        have g2 : W.cell? ⟨w.heap.size, 2, none⟩ = some (.bool true) := by rw [← hW]; exact World.cell?_alloc_at (w := w.drewN _) _ _ _ 2 rfl
        clear hW cW cL cM cE cLE cF cT
        refine wp_loop_rounds 4 ?_
        rw [rounds_succ]
        go_wp2
        rw [rounds_succ]
        go_wp2
        rw [rounds_succ]
        go_wp2
        rw [rounds_succ]
        go_wp2_with (first | (go_at_call 21; refine (awake_c _).mono ?_; rintro e w' ⟨rfl, m, rfl⟩) | (go_at_call 36; with_reducible refine (refNaN_c a0 (by omega) (by omega) _).mono ?_; rw [n0]; rintro e w' ⟨rfl, rfl⟩) | (go_at_call 36; with_reducible refine (refNaN_c a1 (by omega) (by omega) _).mono ?_; rw [n1]; rintro e w' ⟨rfl, rfl⟩) | (go_at_call 19; with_reducible refine (cFl _).mono ?_; rintro e w' ⟨rfl, m, rfl⟩) | (go_at_call 19; with_reducible refine (cFF _).mono ?_; rintro e w' ⟨rfl, m, rfl⟩) | (go_at_call 32; with_reducible refine (cLF _).mono ?_; rintro e w' ⟨rfl, rfl⟩))
        go_ret
        exact ⟨rfl, Grown.drewN hG _⟩
  · rcases hB with hb | hb | ⟨hb, hb', f, cF, cT⟩
    · rcases hC with ⟨rfl, rfl, rfl, n0 | ⟨n0, n1⟩⟩ | ⟨n0, n1, ⟨rfl, rfl, rfl⟩ | ⟨rfl, rfl, rfl⟩ | ⟨rfl, rfl, rfl⟩, fl, cFl, cFF, cLF⟩
      · go_enter Try.func7, Try.ntmps7
        go_wp2_with (first | (go_at_call 28; with_reducible refine (cW _).mono ?_; rintro e w' ⟨rfl, m, rfl⟩) | (go_at_call 30; with_reducible refine (cL _).mono ?_; rintro e w' ⟨rfl, rfl⟩) | (go_at_call 30; with_reducible refine (cM _).mono ?_; rintro e w' ⟨rfl, rfl⟩) | (go_at_call 34; with_reducible refine (cE _).mono ?_; rintro e w' ⟨rfl, rfl⟩) | (go_at_call 32; with_reducible refine (cLE _).mono ?_; rintro e w' ⟨rfl, rfl⟩) | (go_at_call 26; with_reducible refine (cN _).mono ?_; rintro e w' ⟨rfl, rfl⟩))
        generalize hW : World.alloc (World.drewN w _) _ = W
        have hG : Grown w W := by rw [← hW]; exact Grown.alloc (Grown.drewN (Grown.refl _) _) _ _
        have g0 : W.cell? ⟨w.heap.size, 0, none⟩ = some (.bool false) := by rw [← hW]; exact World.cell?_alloc_at (w := w.drewN _) _ _ _ 0 rfl
        have g1 : W.cell? ⟨w.heap.size, 1, none⟩ = some (.bool false) := by rw [← hW]; exact World.cell?_alloc_at (w := w.drewN _) _ _ _ 1 rfl
        have g2 : W.cell? ⟨w.heap.size, 2, none⟩ = some (.bool false) := by rw [← hW]; exact World.cell?_alloc_at (w := w.drewN _) _ _ _ 2 rfl
        clear hW cW cL cM cE cLE cN
        refine wp_loop_rounds 4 ?_
        rw [rounds_succ]
        go_wp2
        rw [rounds_succ]
        go_wp2
        rw [rounds_succ]
        go_wp2
        rw [rounds_succ]
        go_wp2_with (first | (go_at_call 21; refine (awake_c _).mono ?_; rintro e w' ⟨rfl, m, rfl⟩) | (go_at_call 36; with_reducible refine (refNaN_c a0 (by omega) (by omega) _).mono ?_; rw [n0]; rintro e w' ⟨rfl, rfl⟩))
        go_ret
        exact ⟨rfl, Grown.drewN hG _⟩
      · go_enter Try.func7, Try.ntmps7
        go_wp2_with (first | (go_at_call 28; with_reducible refine (cW _).mono ?_; rintro e w' ⟨rfl, m, rfl⟩) | (go_at_call 30; with_reducible refine (cL _).mono ?_; rintro e w' ⟨rfl, rfl⟩) | (go_at_call 30; with_reducible refine (cM _).mono ?_; rintro e w' ⟨rfl, rfl⟩) | (go_at_call 34; with_reducible refine (cE _).mono ?_; rintro e w' ⟨rfl, rfl⟩) | (go_at_call 32; with_reducible refine (cLE _).mono ?_; rintro e w' ⟨rfl, rfl⟩) | (go_at_call 26; with_reducible refine (cN _).mono ?_; rintro e w' ⟨rfl, rfl⟩))
        generalize hW : World.alloc (World.drewN w _) _ = W
        have hG : Grown w W := by rw [← hW]; exact Grown.alloc (Grown.drewN (Grown.refl _) _) _ _
        have g0 : W.cell? ⟨w.heap.size, 0, none⟩ = some (.bool false) := by rw [← hW]; exact World.cell?_alloc_at (w := w.drewN _) _ _ _ 0 rfl
        have g1 : W.cell? ⟨w.heap.size, 1, none⟩ = some (.bool false) := by rw [← hW]; exact World.cell?_alloc_at (w := w.drewN _) _ _ _ 1 rfl
        have g2 : W.cell? ⟨w.heap.size, 2, none⟩ = some (.bool false) := by rw [← hW]; exact World.cell?_alloc_at (w := w.drewN _) _ _ _ 2 rfl
        clear hW cW cL cM cE cLE cN
        refine wp_loop_rounds 4 ?_
        rw [rounds_succ]
        go_wp2
        rw [rounds_succ]
        go_wp2
        rw [rounds_succ]
        go_wp2
        rw [rounds_succ]
        go_wp2_with (first | (go_at_call 21; refine (awake_c _).mono ?_; rintro e w' ⟨rfl, m, rfl⟩) | (go_at_call 36; with_reducible refine (refNaN_c a0 (by omega) (by omega) _).mono ?_; rw [n0]; rintro e w' ⟨rfl, rfl⟩) | (go_at_call 36; with_reducible refine (refNaN_c a1 (by omega) (by omega) _).mono ?_; rw [n1]; rintro e w' ⟨rfl, rfl⟩))
        go_ret
        exact ⟨rfl, Grown.drewN hG _⟩
      · go_enter Try.func7, Try.ntmps7
        go_wp2_with (first | (go_at_call 28; with_reducible refine (cW _).mono ?_; rintro e w' ⟨rfl, m, rfl⟩) | (go_at_call 30; with_reducible refine (cL _).mono ?_; rintro e w' ⟨rfl, rfl⟩) | (go_at_call 30; with_reducible refine (cM _).mono ?_; rintro e w' ⟨rfl, rfl⟩) | (go_at_call 34; with_reducible refine (cE _).mono ?_; rintro e w' ⟨rfl, rfl⟩) | (go_at_call 32; with_reducible refine (cLE _).mono ?_; rintro e w' ⟨rfl, rfl⟩) | (go_at_call 26; with_reducible refine (cN _).mono ?_; rintro e w' ⟨rfl, rfl⟩))
        generalize hW : World.alloc (World.drewN w _) _ = W
        have hG : Grown w W := by rw [← hW]; exact Grown.alloc (Grown.drewN (Grown.refl _) _) _ _
        have g0 : W.cell? ⟨w.heap.size, 0, none⟩ = some (.bool true) := by rw [← hW]; exact World.cell?_alloc_at (w := w.drewN _) _ _ _ 0 rfl
        have g1 : W.cell? ⟨w.heap.size, 1, none⟩ = some (.bool false) := by rw [← hW]; exact World.cell?_alloc_at (w := w.drewN _) _ _ _ 1 rfl
        have g2 : W.cell? ⟨w.heap.size, 2, none⟩ = some (.bool false) := by rw [← hW]; exact World.cell?_alloc_at (w := w.drewN _) _ _ _ 2 rfl
        clear hW cW cL cM cE cLE cN
        refine wp_loop_rounds 4 ?_
        rw [rounds_succ]
        go_wp2
        rw [rounds_succ]
        go_wp2
        rw [rounds_succ]
        go_wp2
        rw [rounds_succ]
        go_wp2_with (first | (go_at_call 21; refine (awake_c _).mono ?_; rintro e w' ⟨rfl, m, rfl⟩) | (go_at_call 36; with_reducible refine (refNaN_c a0 (by omega) (by omega) _).mono ?_; rw [n0]; rintro e w' ⟨rfl, rfl⟩) | (go_at_call 36; with_reducible refine (refNaN_c a1 (by omega) (by omega) _).mono ?_; rw [n1]; rintro e w' ⟨rfl, rfl⟩) | (go_at_call 19; with_reducible refine (cFl _).mono ?_; rintro e w' ⟨rfl, m, rfl⟩) | (go_at_call 19; with_reducible refine (cFF _).mono ?_; rintro e w' ⟨rfl, m, rfl⟩) | (go_at_call 32; with_reducible refine (cLF _).mono ?_; rintro e w' ⟨rfl, rfl⟩))
        go_ret
        exact ⟨rfl, Grown.drewN hG _⟩
      · go_enter Try.func7, Try.ntmps7
        go_wp2_with (first | (go_at_call 28; with_reducible refine (cW _).mono ?_; rintro e w' ⟨rfl, m, rfl⟩) | (go_at_call 30; with_reducible refine (cL _).mono ?_; rintro e w' ⟨rfl, rfl⟩) | (go_at_call 30; with_reducible refine (cM _).mono ?_; rintro e w' ⟨rfl, rfl⟩) | (go_at_call 34; with_reducible refine (cE _).mono ?_; rintro e w' ⟨rfl, rfl⟩) | (go_at_call 32; with_reducible refine (cLE _).mono ?_; rintro e w' ⟨rfl, rfl⟩) | (go_at_call 26; with_reducible refine (cN _).mono ?_; rintro e w' ⟨rfl, rfl⟩))
        generalize hW : World.alloc (World.drewN w _) _ = W
        have hG : Grown w W := by rw [← hW]; exact Grown.alloc (Grown.drewN (Grown.refl _) _) _ _
        have g0 : W.cell? ⟨w.heap.size, 0, none⟩ = some (.bool false) := by rw [← hW]; exact World.cell?_alloc_at (w := w.drewN _) _ _ _ 0 rfl
        have g1 : W.cell? ⟨w.heap.size, 1, none⟩ = some (.bool true) := by rw [← hW]; exact World.cell?_alloc_at (w := w.drewN _) _ _ _ 1 rfl
        have g2 : W.cell? ⟨w.heap.size, 2, none⟩ = some (.bool false) := by rw [← hW]; exact World.cell?_alloc_at (w := w.drewN _) _ _ _ 2 rfl
        clear hW cW cL cM cE cLE cN
        refine wp_loop_rounds 4 ?_
        rw [rounds_succ]
        go_wp2
        rw [rounds_succ]
        go_wp2
        rw [rounds_succ]
        go_wp2
        rw [rounds_succ]
        go_wp2_with (first | (go_at_call 21; refine (awake_c _).mono ?_; rintro e w' ⟨rfl, m, rfl⟩) | (go_at_call 36; with_reducible refine (refNaN_c a0 (by omega) (by omega) _).mono ?_; rw [n0]; rintro e w' ⟨rfl, rfl⟩) | (go_at_call 36; with_reducible refine (refNaN_c a1 (by omega) (by omega) _).mono ?_; rw [n1]; rintro e w' ⟨rfl, rfl⟩) | (go_at_call 19; with_reducible refine (cFl _).mono ?_; rintro e w' ⟨rfl, m, rfl⟩) | (go_at_call 19; with_reducible refine (cFF _).mono ?_; rintro e w' ⟨rfl, m, rfl⟩) | (go_at_call 32; with_reducible refine (cLF _).mono ?_; rintro e w' ⟨rfl, rfl⟩))
        go_ret
        exact ⟨rfl, Grown.drewN hG _⟩
      · go_enter Try.func7, Try.ntmps7
        go_wp2_with (first | (go_at_call 28; with_reducible refine (cW _).mono ?_; rintro e w' ⟨rfl, m, rfl⟩) | (go_at_call 30; with_reducible refine (cL _).mono ?_; rintro e w' ⟨rfl, rfl⟩) | (go_at_call 30; with_reducible refine (cM _).mono ?_; rintro e w' ⟨rfl, rfl⟩) | (go_at_call 34; with_reducible refine (cE _).mono ?_; rintro e w' ⟨rfl, rfl⟩) | (go_at_call 32; with_reducible refine (cLE _).mono ?_; rintro e w' ⟨rfl, rfl⟩) | (go_at_call 26; with_reducible refine (cN _).mono ?_; rintro e w' ⟨rfl, rfl⟩))
        generalize hW : World.alloc (World.drewN w _) _ = W
        have hG : Grown w W := by rw [← hW]; exact Grown.alloc (Grown.drewN (Grown.refl _) _) _ _
        have g0 : W.cell? ⟨w.heap.size, 0, none⟩ = some (.bool false) := by rw [← hW]; exact World.cell?_alloc_at (w := w.drewN _) _ _ _ 0 rfl
        have g1 : W.cell? ⟨w.heap.size, 1, none⟩ = some (.bool false) := by rw [← hW]; exact World.cell?_alloc_at (w := w.drewN _) _ _ _ 1 rfl
        have g2 : W.cell? ⟨w.heap.size, 2, none⟩ = some (.bool true) := by rw [← hW]; exact World.cell?_alloc_at (w := w.drewN _) _ _ _ 2 rfl
        clear hW cW cL cM cE cLE cN
        refine wp_loop_rounds 4 ?_
        rw [rounds_succ]
        go_wp2
        rw [rounds_succ]
        go_wp2
        rw [rounds_succ]
        go_wp2
        rw [rounds_succ]
        go_wp2_with (first | (go_at_call 21; refine (awake_c _).mono ?_; rintro e w' ⟨rfl, m, rfl⟩) | (go_at_call 36; with_reducible refine (refNaN_c a0 (by omega) (by omega) _).mono ?_; rw [n0]; rintro e w' ⟨rfl, rfl⟩) | (go_at_call 36; with_reducible refine (refNaN_c a1 (by omega) (by omega) _).mono ?_; rw [n1]; rintro e w' ⟨rfl, rfl⟩) | (go_at_call 19; with_reducible refine (cFl _).mono ?_; rintro e w' ⟨rfl, m, rfl⟩) | (go_at_call 19; with_reducible refine (cFF _).mono ?_; rintro e w' ⟨rfl, m, rfl⟩) | (go_at_call 32; with_reducible refine (cLF _).mono ?_; rintro e w' ⟨rfl, rfl⟩))
        go_ret
        exact ⟨rfl, Grown.drewN hG _⟩
    · rcases hC with ⟨rfl, rfl, rfl, n0 | ⟨n0, n1⟩⟩ | ⟨n0, n1, ⟨rfl, rfl, rfl⟩ | ⟨rfl, rfl, rfl⟩ | ⟨rfl, rfl, rfl⟩, fl, cFl, cFF, cLF⟩
      · go_enter Try.func7, Try.ntmps7
        go_wp2_with (first | (go_at_call 28; with_reducible refine (cW _).mono ?_; rintro e w' ⟨rfl, m, rfl⟩) | (go_at_call 30; with_reducible refine (cL _).mono ?_; rintro e w' ⟨rfl, rfl⟩) | (go_at_call 30; with_reducible refine (cM _).mono ?_; rintro e w' ⟨rfl, rfl⟩) | (go_at_call 34; with_reducible refine (cE _).mono ?_; rintro e w' ⟨rfl, rfl⟩) | (go_at_call 32; with_reducible refine (cLE _).mono ?_; rintro e w' ⟨rfl, rfl⟩) | (go_at_call 26; with_reducible refine (cN _).mono ?_; rintro e w' ⟨rfl, rfl⟩))
        generalize hW : World.alloc (World.drewN w _) _ = W
        have hG : Grown w W := by rw [← hW]; exact Grown.alloc (Grown.drewN (Grown.refl _) _) _ _
        have g0 : W.cell? ⟨w.heap.size, 0, none⟩ = some (.bool false) := by rw [← hW]; exact World.cell?_alloc_at (w := w.drewN _) _ _ _ 0 rfl
        have g1 : W.cell? ⟨w.heap.size, 1, none⟩ = some (.bool false) := by rw [← hW]; exact World.cell?_alloc_at (w := w.drewN _) _ _ _ 1 rfl
        have g2 : W.cell? ⟨w.heap.size, 2, none⟩ = some (.bool false) := by rw [← hW]; exact World.cell?_alloc_at (w := w.drewN _) _ _ _ 2 rfl
        clear hW cW cL cM cE cLE cN
        refine wp_loop_rounds 4 ?_
        rw [rounds_succ]
        go_wp2
        rw [rounds_succ]
        go_wp2
        rw [rounds_succ]
        go_wp2
        rw [rounds_succ]
        go_wp2_with (first | (go_at_call 21; refine (awake_c _).mono ?_; rintro e w' ⟨rfl, m, rfl⟩) | (go_at_call 36; with_reducible refine (refNaN_c a0 (by omega) (by omega) _).mono ?_; rw [n0]; rintro e w' ⟨rfl, rfl⟩))
        go_ret
        exact ⟨rfl, Grown.drewN hG _⟩
      · go_enter Try.func7, Try.ntmps7
        go_wp2_with (first | (go_at_call 28; with_reducible refine (cW _).mono ?_; rintro e w' ⟨rfl, m, rfl⟩) | (go_at_call 30; with_reducible refine (cL _).mono ?_; rintro e w' ⟨rfl, rfl⟩) | (go_at_call 30; with_reducible refine (cM _).mono ?_; rintro e w' ⟨rfl, rfl⟩) | (go_at_call 34; with_reducible refine (cE _).mono ?_; rintro e w' ⟨rfl, rfl⟩) | (go_at_call 32; with_reducible refine (cLE _).mono ?_; rintro e w' ⟨rfl, rfl⟩) | (go_at_call 26; with_reducible refine (cN _).mono ?_; rintro e w' ⟨rfl, rfl⟩))
        generalize hW : World.alloc (World.drewN w _) _ = W
        have hG : Grown w W := by rw [← hW]; exact Grown.alloc (Grown.drewN (Grown.refl _) _) _ _
        have g0 : W.cell? ⟨w.heap.size, 0, none⟩ = some (.bool false) := by rw [← hW]; exact World.cell?_alloc_at (w := w.drewN _) _ _ _ 0 rfl
        have g1 : W.cell? ⟨w.heap.size, 1, none⟩ = some (.bool false) := by rw [← hW]; exact World.cell?_alloc_at (w := w.drewN _) _ _ _ 1 rfl
        have g2 : W.cell? ⟨w.heap.size, 2, none⟩ = some (.bool false) := by rw [← hW]; exact World.cell?_alloc_at (w := w.drewN _) _ _ _ 2 rfl
        clear hW cW cL cM cE cLE cN
        refine wp_loop_rounds 4 ?_
        rw [rounds_succ]
        go_wp2
        rw [rounds_succ]
        go_wp2
        rw [rounds_succ]
        go_wp2
        rw [rounds_succ]
        go_wp2_with (first | (go_at_call 21; refine (awake_c _).mono ?_; rintro e w' ⟨rfl, m, rfl⟩) | (go_at_call 36; with_reducible refine (refNaN_c a0 (by omega) (by omega) _).mono ?_; rw [n0]; rintro e w' ⟨rfl, rfl⟩) | (go_at_call 36; with_reducible refine (refNaN_c a1 (by omega) (by omega) _).mono ?_; rw [n1]; rintro e w' ⟨rfl, rfl⟩))
        go_ret
        exact ⟨rfl, Grown.drewN hG _⟩
      · go_enter Try.func7, Try.ntmps7
        go_wp2_with (first | (go_at_call 28; with_reducible refine (cW _).mono ?_; rintro e w' ⟨rfl, m, rfl⟩) | (go_at_call 30; with_reducible refine (cL _).mono ?_; rintro e w' ⟨rfl, rfl⟩) | (go_at_call 30; with_reducible refine (cM _).mono ?_; rintro e w' ⟨rfl, rfl⟩) | (go_at_call 34; with_reducible refine (cE _).mono ?_; rintro e w' ⟨rfl, rfl⟩) | (go_at_call 32; with_reducible refine (cLE _).mono ?_; rintro e w' ⟨rfl, rfl⟩) | (go_at_call 26; with_reducible refine (cN _).mono ?_; rintro e w' ⟨rfl, rfl⟩))
        generalize hW : World.alloc (World.drewN w _) _ = W
        have hG : Grown w W := by rw [← hW]; exact Grown.alloc (Grown.drewN (Grown.refl _) _) _ _
        have g0 : W.cell? ⟨w.heap.size, 0, none⟩ = some (.bool true) := by rw [← hW]; exact World.cell?_alloc_at (w := w.drewN _) _ _ _ 0 rfl
        have g1 : W.cell? ⟨w.heap.size, 1, none⟩ = some (.bool false) := by rw [← hW]; exact World.cell?_alloc_at (w := w.drewN _) _ _ _ 1 rfl
        have g2 : W.cell? ⟨w.heap.size, 2, none⟩ = some (.bool false) := by rw [← hW]; exact World.cell?_alloc_at (w := w.drewN _) _ _ _ 2 rfl
        clear hW cW cL cM cE cLE cN
        refine wp_loop_rounds 4 ?_
        rw [rounds_succ]
        go_wp2
        rw [rounds_succ]
        go_wp2
        rw [rounds_succ]
        go_wp2
        rw [rounds_succ]
        go_wp2_with (first | (go_at_call 21; refine (awake_c _).mono ?_; rintro e w' ⟨rfl, m, rfl⟩) | (go_at_call 36; with_reducible refine (refNaN_c a0 (by omega) (by omega) _).mono ?_; rw [n0]; rintro e w' ⟨rfl, rfl⟩) | (go_at_call 36; with_reducible refine (refNaN_c a1 (by omega) (by omega) _).mono ?_; rw [n1]; rintro e w' ⟨rfl, rfl⟩) | (go_at_call 19; with_reducible refine (cFl _).mono ?_; rintro e w' ⟨rfl, m, rfl⟩) | (go_at_call 19; with_reducible refine (cFF _).mono ?_; rintro e w' ⟨rfl, m, rfl⟩) | (go_at_call 32; with_reducible refine (cLF _).mono ?_; rintro e w' ⟨rfl, rfl⟩))
        go_ret
        exact ⟨rfl, Grown.drewN hG _⟩
      · go_enter Try.func7, Try.ntmps7
        go_wp2_with (first | (go_at_call 28; with_reducible refine (cW _).mono ?_; rintro e w' ⟨rfl, m, rfl⟩) | (go_at_call 30; with_reducible refine (cL _).mono ?_; rintro e w' ⟨rfl, rfl⟩) | (go_at_call 30; with_reducible refine (cM _).mono ?_; rintro e w' ⟨rfl, rfl⟩) | (go_at_call 34; with_reducible refine (cE _).mono ?_; rintro e w' ⟨rfl, rfl⟩) | (go_at_call 32; with_reducible refine (cLE _).mono ?_; rintro e w' ⟨rfl, rfl⟩) | (go_at_call 26; with_reducible refine (cN _).mono ?_; rintro e w' ⟨rfl, rfl⟩))
        generalize hW : World.alloc (World.drewN w _) _ = W
        have hG : Grown w W := by rw [← hW]; exact Grown.alloc (Grown.drewN (Grown.refl _) _) _ _
        have g0 : W.cell? ⟨w.heap.size, 0, none⟩ = some (.bool false) := by rw [← hW]; exact World.cell?_alloc_at (w := w.drewN _) _ _ _ 0 rfl
        have g1 : W.cell? ⟨w.heap.size, 1, none⟩ = some (.bool true) := by rw [← hW]; exact World.cell?_alloc_at (w := w.drewN _) _ _ _ 1 rfl
        have g2 : W.cell? ⟨w.heap.size, 2, none⟩ = some (.bool false) := by rw [← hW]; exact World.cell?_alloc_at (w := w.drewN _) _ _ _ 2 rfl
        clear hW cW cL cM cE cLE cN
        refine wp_loop_rounds 4 ?_
        rw [rounds_succ]
        go_wp2
        rw [rounds_succ]
        go_wp2
        rw [rounds_succ]
        go_wp2
        rw [rounds_succ]
        go_wp2_with (first | (go_at_call 21; refine (awake_c _).mono ?_; rintro e w' ⟨rfl, m, rfl⟩) | (go_at_call 36; with_reducible refine (refNaN_c a0 (by omega) (by omega) _).mono ?_; rw [n0]; rintro e w' ⟨rfl, rfl⟩) | (go_at_call 36; with_reducible refine (refNaN_c a1 (by omega) (by omega) _).mono ?_; rw [n1]; rintro e w' ⟨rfl, rfl⟩) | (go_at_call 19; with_reducible refine (cFl _).mono ?_; rintro e w' ⟨rfl, m, rfl⟩) | (go_at_call 19; with_reducible refine (cFF _).mono ?_; rintro e w' ⟨rfl, m, rfl⟩) | (go_at_call 32; with_reducible refine (cLF _).mono ?_; rintro e w' ⟨rfl, rfl⟩))
        go_ret
        exact ⟨rfl, Grown.drewN hG _⟩
      · go_enter Try.func7, Try.ntmps7
        go_wp2_with (first | (go_at_call 28; with_reducible refine (cW _).mono ?_; rintro e w' ⟨rfl, m, rfl⟩) | (go_at_call 30; with_reducible refine (cL _).mono ?_; rintro e w' ⟨rfl, rfl⟩) | (go_at_call 30; with_reducible refine (cM _).mono ?_; rintro e w' ⟨rfl, rfl⟩) | (go_at_call 34; with_reducible refine (cE _).mono ?_; rintro e w' ⟨rfl, rfl⟩) | (go_at_call 32; with_reducible refine (cLE _).mono ?_; rintro e w' ⟨rfl, rfl⟩) | (go_at_call 26; with_reducible refine (cN _).mono ?_; rintro e w' ⟨rfl, rfl⟩))
        generalize hW : World.alloc (World.drewN w _) _ = W
        have hG : Grown w W := by rw [← hW]; exact Grown.alloc (Grown.drewN (Grown.refl _) _) _ _
        have g0 : W.cell? ⟨w.heap.size, 0, none⟩ = some (.bool false) := by rw [← hW]; exact World.cell?_alloc_at (w := w.drewN _) _ _ _ 0 rfl
        have g1 : W.cell? ⟨w.heap.size, 1, none⟩ = some (.bool false) := by rw [← hW]; exact World.cell?_alloc_at (w := w.drewN _) _ _ _ 1 rfl
        have g2 : W.cell? ⟨w.heap.size, 2, none⟩ = some (.bool true) := by rw [← hW]; exact World.cell?_alloc_at (w := w.drewN _) _ _ _ 2 rfl
        clear hW cW cL cM cE cLE cN
        refine wp_loop_rounds 4 ?_
        rw [rounds_succ]
        go_wp2
        rw [rounds_succ]
        go_wp2
        rw [rounds_succ]
        go_wp2
        rw [rounds_succ]
        go_wp2_with (first | (go_at_call 21; refine (awake_c _).mono ?_; rintro e w' ⟨rfl, m, rfl⟩) | (go_at_call 36; with_reducible refine (refNaN_c a0 (by omega) (by omega) _).mono ?_; rw [n0]; rintro e w' ⟨rfl, rfl⟩) | (go_at_call 36; with_reducible refine (refNaN_c a1 (by omega) (by omega) _).mono ?_; rw [n1]; rintro e w' ⟨rfl, rfl⟩) | (go_at_call 19; with_reducible refine (cFl _).mono ?_; rintro e w' ⟨rfl, m, rfl⟩) | (go_at_call 19; with_reducible refine (cFF _).mono ?_; rintro e w' ⟨rfl, m, rfl⟩) | (go_at_call 32; with_reducible refine (cLF _).mono ?_; rintro e w' ⟨rfl, rfl⟩))
        go_ret
        exact ⟨rfl, Grown.drewN hG _⟩
    · rcases hC with ⟨rfl, rfl, rfl, n0 | ⟨n0, n1⟩⟩ | ⟨n0, n1, ⟨rfl, rfl, rfl⟩ | ⟨rfl, rfl, rfl⟩ | ⟨rfl, rfl, rfl⟩, fl, cFl, cFF, cLF⟩
      · go_enter Try.func7, Try.ntmps7
        go_wp2_with (first | (go_at_call 28; with_reducible refine (cW _).mono ?_; rintro e w' ⟨rfl, m, rfl⟩) | (go_at_call 30; with_reducible refine (cL _).mono ?_; rintro e w' ⟨rfl, rfl⟩) | (go_at_call 30; with_reducible refine (cM _).mono ?_; rintro e w' ⟨rfl, rfl⟩) | (go_at_call 34; with_reducible refine (cE _).mono ?_; rintro e w' ⟨rfl, rfl⟩) | (go_at_call 32; with_reducible refine (cLE _).mono ?_; rintro e w' ⟨rfl, rfl⟩) | (go_at_call 26; with_reducible refine (cN _).mono ?_; rintro e w' ⟨rfl, rfl⟩) | (go_at_call 24; with_reducible refine (cF _).mono ?_; rintro e w' ⟨rfl, rfl⟩) | (go_at_call 22; with_reducible refine (cT _).mono ?_; rintro e w' ⟨rfl, rfl⟩))
        generalize hW : World.alloc (World.drewN w _) _ = W
        have hG : Grown w W := by rw [← hW]; exact Grown.alloc (Grown.drewN (Grown.refl _) _) _ _
        have g0 : W.cell? ⟨w.heap.size, 0, none⟩ = some (.bool false) := by rw [← hW]; exact World.cell?_alloc_at (w := w.drewN _) _ _ _ 0 rfl
        have g1 : W.cell? ⟨w.heap.size, 1, none⟩ = some (.bool false) := by rw [← hW]; exact World.cell?_alloc_at (w := w.drewN _) _ _ _ 1 rfl
        have g2 : W.cell? ⟨w.heap.size, 2, none⟩ = some (.bool false) := by rw [← hW]; exact World.cell?_alloc_at (w := w.drewN _) _ _ _ 2 rfl
        clear hW cW cL cM cE cLE cN cF cT
        refine wp_loop_rounds 4 ?_
        rw [rounds_succ]
        go_wp2
        rw [rounds_succ]
        go_wp2
        rw [rounds_succ]
        go_wp2
        rw [rounds_succ]
        go_wp2_with (first | (go_at_call 21; refine (awake_c _).mono ?_; rintro e w' ⟨rfl, m, rfl⟩) | (go_at_call 36; with_reducible refine (refNaN_c a0 (by omega) (by omega) _).mono ?_; rw [n0]; rintro e w' ⟨rfl, rfl⟩))
        go_ret
        exact ⟨rfl, Grown.drewN hG _⟩
      · go_enter Try.func7, Try.ntmps7
        go_wp2_with (first | (go_at_call 28; with_reducible refine (cW _).mono ?_; rintro e w' ⟨rfl, m, rfl⟩) | (go_at_call 30; with_reducible refine (cL _).mono ?_; rintro e w' ⟨rfl, rfl⟩) | (go_at_call 30; with_reducible refine (cM _).mono ?_; rintro e w' ⟨rfl, rfl⟩) | (go_at_call 34; with_reducible refine (cE _).mono ?_; rintro e w' ⟨rfl, rfl⟩) | (go_at_call 32; with_reducible refine (cLE _).mono ?_; rintro e w' ⟨rfl, rfl⟩) | (go_at_call 26; with_reducible refine (cN _).mono ?_; rintro e w' ⟨rfl, rfl⟩) | (go_at_call 24; with_reducible refine (cF _).mono ?_; rintro e w' ⟨rfl, rfl⟩) | (go_at_call 22; with_reducible refine (cT _).mono ?_; rintro e w' ⟨rfl, rfl⟩))
        generalize hW : World.alloc (World.drewN w _) _ = W
        have hG : Grown w W := by rw [← hW]; exact Grown.alloc (Grown.drewN (Grown.refl _) _) _ _
        have g0 : W.cell? ⟨w.heap.size, 0, none⟩ = some (.bool false) := by rw [← hW]; exact World.cell?_alloc_at (w := w.drewN _) _ _ _ 0 rfl
        have g1 : W.cell? ⟨w.heap.size, 1, none⟩ = some (.bool false) := by rw [← hW]; exact World.cell?_alloc_at (w := w.drewN _) _ _ _ 1 rfl
        have g2 : W.cell? ⟨w.heap.size, 2, none⟩ = some (.bool false) := by rw [← hW]; exact World.cell?_alloc_at (w := w.drewN _) _ _ _ 2 rfl
        clear hW cW cL cM cE cLE cN cF cT
        refine wp_loop_rounds 4 ?_
        rw [rounds_succ]
        go_wp2
        rw [rounds_succ]
        go_wp2
        rw [rounds_succ]
        go_wp2
        rw [rounds_succ]
        go_wp2_with (first | (go_at_call 21; refine (awake_c _).mono ?_; rintro e w' ⟨rfl, m, rfl⟩) | (go_at_call 36; with_reducible refine (refNaN_c a0 (by omega) (by omega) _).mono ?_; rw [n0]; rintro e w' ⟨rfl, rfl⟩) | (go_at_call 36; with_reducible refine (refNaN_c a1 (by omega) (by omega) _).mono ?_; rw [n1]; rintro e w' ⟨rfl, rfl⟩))
        go_ret
        exact ⟨rfl, Grown.drewN hG _⟩
      · go_enter Try.func7, Try.ntmps7
        go_wp2_with (first | (go_at_call 28; with_reducible refine (cW _).mono ?_; rintro e w' ⟨rfl, m, rfl⟩) | (go_at_call 30; with_reducible refine (cL _).mono ?_; rintro e w' ⟨rfl, rfl⟩) | (go_at_call 30; with_reducible refine (cM _).mono ?_; rintro e w' ⟨rfl, rfl⟩) | (go_at_call 34; with_reducible refine (cE _).mono ?_; rintro e w' ⟨rfl, rfl⟩) | (go_at_call 32; with_reducible refine (cLE _).mono ?_; rintro e w' ⟨rfl, rfl⟩) | (go_at_call 26; with_reducible refine (cN _).mono ?_; rintro e w' ⟨rfl, rfl⟩) | (go_at_call 24; with_reducible refine (cF _).mono ?_; rintro e w' ⟨rfl, rfl⟩) | (go_at_call 22; with_reducible refine (cT _).mono ?_; rintro e w' ⟨rfl, rfl⟩))
        generalize hW : World.alloc (World.drewN w _) _ = W
        have hG : Grown w W := by rw [← hW]; exact Grown.alloc (Grown.drewN (Grown.refl _) _) _ _
        have g0 : W.cell? ⟨w.heap.size, 0, none⟩ = some (.bool true) := by rw [← hW]; exact World.cell?_alloc_at (w := w.drewN _) _ _ _ 0 rfl
        have g1 : W.cell? ⟨w.heap.size, 1, none⟩ = some (.bool false) := by rw [← hW]; exact World.cell?_alloc_at (w := w.drewN _) _ _ _ 1 rfl
        have g2 : W.cell? ⟨w.heap.size, 2, none⟩ = some (.bool false) := by rw [← hW]; exact World.cell?_alloc_at (w := w.drewN _) _ _ _ 2 rfl
        clear hW cW cL cM cE cLE cN cF cT
        refine wp_loop_rounds 4 ?_
        rw [rounds_succ]
        go_wp2
        rw [rounds_succ]
        go_wp2
        rw [rounds_succ]
        go_wp2
        rw [rounds_succ]
        go_wp2_with (first | (go_at_call 21; refine (awake_c _).mono ?_; rintro e w' ⟨rfl, m, rfl⟩) | (go_at_call 36; with_reducible refine (refNaN_c a0 (by omega) (by omega) _).mono ?_; rw [n0]; rintro e w' ⟨rfl, rfl⟩) | (go_at_call 36; with_reducible refine (refNaN_c a1 (by omega) (by omega) _).mono ?_; rw [n1]; rintro e w' ⟨rfl, rfl⟩) | (go_at_call 19; with_reducible refine (cFl _).mono ?_; rintro e w' ⟨rfl, m, rfl⟩) | (go_at_call 19; with_reducible refine (cFF _).mono ?_; rintro e w' ⟨rfl, m, rfl⟩) | (go_at_call 32; with_reducible refine (cLF _).mono ?_; rintro e w' ⟨rfl, rfl⟩))
        go_ret
        exact ⟨rfl, Grown.drewN hG _⟩
      · go_enter Try.func7, Try.ntmps7
        go_wp2_with (first | (go_at_call 28; with_reducible refine (cW _).mono ?_; rintro e w' ⟨rfl, m, rfl⟩) | (go_at_call 30; with_reducible refine (cL _).mono ?_; rintro e w' ⟨rfl, rfl⟩) | (go_at_call 30; with_reducible refine (cM _).mono ?_; rintro e w' ⟨rfl, rfl⟩) | (go_at_call 34; with_reducible refine (cE _).mono ?_; rintro e w' ⟨rfl, rfl⟩) | (go_at_call 32; with_reducible refine (cLE _).mono ?_; rintro e w' ⟨rfl, rfl⟩) | (go_at_call 26; with_reducible refine (cN _).mono ?_; rintro e w' ⟨rfl, rfl⟩) | (go_at_call 24; with_reducible refine (cF _).mono ?_; rintro e w' ⟨rfl, rfl⟩) | (go_at_call 22; with_reducible refine (cT _).mono ?_; rintro e w' ⟨rfl, rfl⟩))
        generalize hW : World.alloc (World.drewN w _) _ = W
        have hG : Grown w W := by rw [← hW]; exact Grown.alloc (Grown.drewN (Grown.refl _) _) _ _
        have g0 : W.cell? ⟨w.heap.size, 0, none⟩ = some (.bool false) := by rw [← hW]; exact World.cell?_alloc_at (w := w.drewN _) _ _ _ 0 rfl
        have g1 : W.cell? ⟨w.heap.size, 1, none⟩ = some (.bool true) := by rw [← hW]; exact World.cell?_alloc_at (w := w.drewN _) _ _ _ 1 rfl
        have g2 : W.cell? ⟨w.heap.size, 2, none⟩ = some (.bool false) := by rw [← hW]; exact World.cell?_alloc_at (w := w.drewN _) _ _ _ 2 rfl
        clear hW cW cL cM cE cLE cN cF cT
        refine wp_loop_rounds 4 ?_
        rw [rounds_succ]
        go_wp2
        rw [rounds_succ]
        go_wp2
        rw [rounds_succ]
        go_wp2
        rw [rounds_succ]
        go_wp2_with (first | (go_at_call 21; refine (awake_c _).mono ?_; rintro e w' ⟨rfl, m, rfl⟩) | (go_at_call 36; with_reducible refine (refNaN_c a0 (by omega) (by omega) _).mono ?_; rw [n0]; rintro e w' ⟨rfl, rfl⟩) | (go_at_call 36; with_reducible refine (refNaN_c a1 (by omega) (by omega) _).mono ?_; rw [n1]; rintro e w' ⟨rfl, rfl⟩) | (go_at_call 19; with_reducible refine (cFl _).mono ?_; rintro e w' ⟨rfl, m, rfl⟩) | (go_at_call 19; with_reducible refine (cFF _).mono ?_; rintro e w' ⟨rfl, m, rfl⟩) | (go_at_call 32; with_reducible refine (cLF _).mono ?_; rintro e w' ⟨rfl, rfl⟩))
        go_ret
        exact ⟨rfl, Grown.drewN hG _⟩
      · go_enter Try.func7, Try.ntmps7
        go_wp2_with (first | (go_at_call 28; with_reducible refine (cW _).mono ?_; rintro e w' ⟨rfl, m, rfl⟩) | (go_at_call 30; with_reducible refine (cL _).mono ?_; rintro e w' ⟨rfl, rfl⟩) | (go_at_call 30; with_reducible refine (cM _).mono ?_; rintro e w' ⟨rfl, rfl⟩) | (go_at_call 34; with_reducible refine (cE _).mono ?_; rintro e w' ⟨rfl, rfl⟩) | (go_at_call 32; with_reducible refine (cLE _).mono ?_; rintro e w' ⟨rfl, rfl⟩) | (go_at_call 26; with_reducible refine (cN _).mono ?_; rintro e w' ⟨rfl, rfl⟩) | (go_at_call 24; with_reducible refine (cF _).mono ?_; rintro e w' ⟨rfl, rfl⟩) | (go_at_call 22; with_reducible refine (cT _).mono ?_; rintro e w' ⟨rfl, rfl⟩))
        generalize hW : World.alloc (World.drewN w _) _ = W
        have hG : Grown w W := by rw [← hW]; exact Grown.alloc (Grown.drewN (Grown.refl _) _) _ _
        have g0 : W.cell? ⟨w.heap.size, 0, none⟩ = some (.bool false) := by rw [← hW]; exact World.cell?_alloc_at (w := w.drewN _) _ _ _ 0 rfl
        have g1 : W.cell? ⟨w.heap.size, 1, none⟩ = some (.bool false) := by rw [← hW]; exact World.cell?_alloc_at (w := w.drewN _) _ _ _ 1 rfl
        have g2 : W.cell? ⟨w.heap.size, 2, none⟩ = some (.bool true) := by rw [← hW]; exact World.cell?_alloc_at (w := w.drewN _) _ _ _ 2 rfl
        clear hW cW cL cM cE cLE cN cF cT
        refine wp_loop_rounds 4 ?_
        rw [rounds_succ]
        go_wp2
        rw [rounds_succ]
        go_wp2
        rw [rounds_succ]
        go_wp2
        rw [rounds_succ]
        go_wp2_with (first | (go_at_call 21; refine (awake_c _).mono ?_; rintro e w' ⟨rfl, m, rfl⟩) | (go_at_call 36; with_reducible refine (refNaN_c a0 (by omega) (by omega) _).mono ?_; rw [n0]; rintro e w' ⟨rfl, rfl⟩) | (go_at_call 36; with_reducible refine (refNaN_c a1 (by omega) (by omega) _).mono ?_; rw [n1]; rintro e w' ⟨rfl, rfl⟩) | (go_at_call 19; with_reducible refine (cFl _).mono ?_; rintro e w' ⟨rfl, m, rfl⟩) | (go_at_call 19; with_reducible refine (cFF _).mono ?_; rintro e w' ⟨rfl, m, rfl⟩) | (go_at_call 32; with_reducible refine (cLF _).mono ?_; rintro e w' ⟨rfl, rfl⟩))
        go_ret
        exact ⟨rfl, Grown.drewN hG _⟩

set_option maxHeartbeats 1000000 in
theorem softBack_walk (a0 : Int) (a1 : Int) (a2 : Int) (a3 : Int) (w0 : (Lit.int .u64 a0).wf = true) (w1 : (Lit.int .u64 a1).wf = true) (w2 : (Lit.int .i64 a2).wf = true) (w3 : (Lit.int .u32 a3).wf = true) (w : World) :
    Calls Try.prog 7 #[.int .u64 a0, .int .u64 a1, .int .i64 a2, .int .u32 a3] w fun e w' => e = .returned (.bool true) ∧ Grown w w' := by
  obtain ⟨h0, h0''⟩ := bounds_u64 w0
  obtain ⟨h1, h1''⟩ := bounds_u64 w1
  obtain ⟨h2, h2'⟩ := bounds_i64 w2
  obtain ⟨h3, h3'⟩ := bounds_u32 w3
  have h0' : a0 < 18446744073709551616 := by omega
  have h1' : a1 < 18446744073709551616 := by omega
  refine softBack_core a0 a1 a2 a3 (wideI a3) (lessI a0 a1) (equalI a0 a1) (lessI a1 a0) w h0 h0' h1 h1' (softWide_c a3 (by omega)) ?_ ?_ (softLess_c a0 a1) (softEqual_c a0 a1) (softLess_c a1 a0) ?_ ?_
  · cases hn : (Ieee.single.read a3.toNat).isNaN with
    | true => exact Or.inl (by unfold wideI; rw [if_pos hn])
    | false =>
      right
      have hw : nanB (wideI a3) = false := by rw [wideI_nan, hn]
      refine ⟨fun h => ?_, fun w => ?_⟩
      · rw [h] at hw; exact absurd hw (by decide)
      · have := softNarrow_in (wideI a3) a3.toNat (wideI_range a3).1 hw (narrow_wide a3 (by omega) hn) w
        rwa [Int.toNat_of_nonneg h3] at this
  · by_cases hb : a2 < -9007199254740992
    · exact Or.inl hb
    · by_cases hb' : 9007199254740992 < a2
      · exact Or.inr (Or.inl hb')
      · refine Or.inr (Or.inr ⟨by omega, by omega, fromI a2, softFromInt_c a2, ?_⟩)
        obtain ⟨k1, k2⟩ := fromI_key a2 (by omega)
        have p : (0 : Int) < one1 := by have := one1_pos; omega
        obtain ⟨r1, r2⟩ := fromI_range a2
        have b1 : -9223372036854775808 * (one1 : Int) ≤ keyI (fromI a2) := by rw [k2]; exact Int.mul_le_mul_of_nonneg_right h2 (by omega)
        have b2 : keyI (fromI a2) < 9223372036854775808 * one1 := by rw [k2]; exact Int.mul_lt_mul_of_pos_right (by omega) p
        have hv := trunc_val (fromI a2) r2 k1 b1 b2
        have hf : fitsB (fromI a2) = true := by rw [fits_key _ r1 r2 (fromI_nan a2)]; simp only [decide_eq_true_eq]; exact ⟨b1, b2⟩
        have ht : truncI (fromI a2) = a2 := by
          obtain ⟨t1, t2⟩ := trunc_key (fromI a2) r2 k1
          rw [k2] at t1 t2
          by_cases g : 0 ≤ a2
          · obtain ⟨u1, u2⟩ := t1 (Int.mul_nonneg g (by omega))
            exact quo_unique _ _ _ u1 u2 (Int.le_refl _) (by omega)
          · obtain ⟨u1, u2⟩ := t2 (Int.mul_nonpos_of_nonpos_of_nonneg (by omega) (by omega))
            exact (quo_unique a2 _ _ u1 (by omega) (Int.le_refl _) (by omega)).symm
        rw [ht] at hv
        exact softTrunc_in (fromI a2) a2 hv hf
  · exact softLessEq_c a0 a1
  · cases n0 : nanB a0 with
    | true =>
      obtain ⟨l1, l2, l3⟩ := less_nan a0 a1 h0 h1 (Or.inl n0)
      obtain ⟨l4, l5, l6⟩ := less_nan a1 a0 h1 h0 (Or.inr n0)
      exact Or.inl ⟨l1, l2, l4, Or.inl rfl⟩
    | false =>
      cases n1 : nanB a1 with
      | true =>
        obtain ⟨l1, l2, l3⟩ := less_nan a0 a1 h0 h1 (Or.inr n1)
        obtain ⟨l4, l5, l6⟩ := less_nan a1 a0 h1 h0 (Or.inl n1)
        exact Or.inl ⟨l1, l2, l4, Or.inr ⟨rfl, rfl⟩⟩
      | false =>
        refine Or.inr ⟨rfl, rfl, ?_, floorI a0, softFloor_c a0 h0, ?_, ?_⟩
        · rw [lessI_key a0 a1 h0 h0' h1 h1' n0 n1, equalI_key a0 a1 h0 h0' h1 h1' n0 n1, lessI_key a1 a0 h1 h1' h0 h0' n1 n0]
          simp only [decide_eq_true_eq, decide_eq_false_iff_not]
          omega
        · obtain ⟨r1, r2⟩ := floorI_range a0
          have e : floorI (floorI a0) = floorI a0 := by
            cases hf : finB a0 with
            | true => exact (floor_key a0 h0 h0' hf).2.1
            | false => rw [floor_inf a0 h0 h0' n0 hf, floor_inf a0 h0 h0' n0 hf]
          have := softFloor_c (floorI a0) r1
          rwa [e] at this
        · obtain ⟨r1, r2⟩ := floorI_range a0
          have nf : nanB (floorI a0) = false := by rw [floorI_nan a0 h0, n0]
          have := softLessEq_c (floorI a0) a0
          have e : lessEqI (floorI a0) a0 = true := by
            rw [lessEqI_key _ _ r1 r2 h0 h0' nf n0, decide_eq_true_eq]
            cases hf : finB a0 with
            | true => obtain ⟨-, -, q, q1, q2, q3⟩ := floor_key a0 h0 h0' hf; rw [q1]; exact q2
            | false => rw [floor_inf a0 h0 h0' n0 hf]; exact Int.le_refl _
          rwa [e] at this
end Go.Proofs.Ytignkihhhflelaa.W
