/- Contracts of the reference of package num on whole numbers: products, quotients rounded down, rests, the sign turned. -/
import Derived.Test.YtpbcplgpbafjpaaRefC3
namespace Go.Proofs.Ytpbcplgpbafjpaa.W
open Go.ChangeShapes Go.WideShapes Go.RowKit

set_option maxRecDepth 100000 in
set_option maxHeartbeats 4000000 in
theorem refMul_core (i u j v x y d p V : Int) (b1 b2 ok : Bool) (X : Value) (d1 : decide (i < 0) = b1) (d2 : decide (j < 0) = b2) (hd : IntKind.u64.wrap ((18446744073709551615 : Int).tdiv x) = d) (hp : IntKind.u64.wrap (x * y) = p) (w : World)
    (hC : (0 < x ∧ ¬ x = 0 ∧ d < y ∧ X = .tuple #[.agg #[.bool false, .int .i64 0, .int .u64 0], .int .i64 10]) ∨ (((0 < x ∧ ¬ x = 0 ∧ ¬ d < y) ∨ ¬ 0 < x) ∧ ((ok = true ∧ X = .tuple #[.agg #[.bool true, .int .i64 V, .int .u64 0], .int .i64 0]) ∨ (ok = false ∧ X = .tuple #[.agg #[.bool false, .int .i64 0, .int .u64 0], .int .i64 10]))))
    (c1 : ∀ w, Calls Try.prog 51 #[.int .i64 i] w fun e w' => e = .returned (.int .u64 x) ∧ w' = w)
    (c2 : ∀ w, Calls Try.prog 51 #[.int .i64 j] w fun e w' => e = .returned (.int .u64 y) ∧ w' = w)
    (c3 : ∀ w, Calls Try.prog 52 #[.int .u64 p, .bool (b1 != b2)] w fun e w' => e = .returned (.tuple #[.int .i64 V, .bool ok]) ∧ w' = w) :
    Calls Try.prog 14 #[.agg #[.bool true, .int .i64 i, .int .u64 u], .agg #[.bool true, .int .i64 j, .int .u64 v]] w fun e w' => e = .returned X ∧ Gr w w' := by
  rcases hC with ⟨h1, h2, h3, rfl⟩ | ⟨⟨h1, h2, h3⟩ | h1, ⟨rfl, rfl⟩ | ⟨rfl, rfl⟩⟩ <;> cases b1 <;> cases b2
  all_goals
    go_enter Try.func14, Try.ntmps14
    go_wp2
    generalize hW : World.alloc (World.alloc (World.alloc w _) _) _ = W; have hg := Gr.of_eq hW; obtain ⟨fA, fB, fR, fz, hG⟩ := hg.three (Nat.zero_lt_succ _) (Nat.zero_lt_succ _) (Nat.zero_lt_succ _); clear hg; generalize hR : w.heap.size + 1 + 1 = bR at fR fz ⊢; replace hR : Hid (w.heap.size + 1 < bR) := (by (show w.heap.size + 1 < bR); omega); clear hW
    go_region_held3 (fun w' => (∀ i_1, w'.cell? ⟨w.heap.size, i_1, none⟩ = #[Value.bool true, .int .i64 i, .int .u64 u][i_1]?) ∧ (∀ i, w'.cell? ⟨w.heap.size + 1, i, none⟩ = #[Value.bool true, .int .i64 j, .int .u64 v][i]?)) (first | exact ⟨fA, fB⟩ | exact far3 hR.out fA fB _ _ _) (first | (go_at_call 51; with_reducible refine (c1 _).mono ?_; rintro e w' ⟨rfl, rfl⟩) | (go_at_call 51; with_reducible refine (c2 _).mono ?_; rintro e w' ⟨rfl, rfl⟩))
    generalize hW2 : World.drew W = W2
    have hg := Gr.of_eq hW2
    (try replace hg := hg.of_drew); replace fz := hg.thaw fR (Nat.zero_lt_succ _) fz; replace fA := hg.cells fA (Nat.zero_lt_succ _); replace fB := hg.cells fB (Nat.zero_lt_succ _); replace fR := hg.cells fR (Nat.zero_lt_succ _); replace hG := hG.trans hg; clear hg
    clear hW2
    go_wp2_with (first | (go_at_call 52; refine (c3 _).mono ?_; rintro e w' ⟨rfl, rfl⟩) | (go_at_call 44; refine (refWhole_c _ _).mono ?_; rintro e w' ⟨rfl, hg⟩; (try replace hg := hg.of_drew); replace fz := hg.thaw fR (Nat.zero_lt_succ _) fz; replace fA := hg.cells fA (Nat.zero_lt_succ _); replace fB := hg.cells fB (Nat.zero_lt_succ _); replace fR := hg.cells fR (Nat.zero_lt_succ _); replace hG := hG.trans hg; clear hg))
    have hR' : w.heap.size ≤ bR := by have := hR.out; omega
    exact bodyPost_ret (by simp [results, Try.results14, go_sem, fR]) rfl ⟨rfl, ((hG.store hR' _).store hR' _).store hR' _⟩
end Go.Proofs.Ytpbcplgpbafjpaa.W
