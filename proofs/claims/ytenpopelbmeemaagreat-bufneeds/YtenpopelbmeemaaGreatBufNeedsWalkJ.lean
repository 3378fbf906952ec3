import Derived.Test.YtenpopelbmeemaaGreatBnNegJ
import Derived.Test.YtenpopelbmeemaaGreatBnBigJ
import Derived.Test.YtenpopelbmeemaaGreatBnBigBJ
import Derived.Test.YtenpopelbmeemaaGreatBnOkJ
import Derived.Test.YtenpopelbmeemaaGreatCellOpenJ
/- BufNeeds: the walk. -/
namespace Go.Proofs.YtenpopelbmeemaaGreat.W
open Go.ChangeShapes Go.WideShapes Go.RowKit Go.Shelf
set_option linter.unusedVariables false
set_option maxRecDepth 100000 in
theorem bn_bad (k n u : Int) (h : u < 0 ∨ (¬ u < 0 ∧ u > 2000) ∨ (¬ u < 0 ∧ ¬ u > 2000 ∧ k < 5) ∨ (¬ u < 0 ∧ ¬ u > 2000 ∧ ¬ k < 5 ∧ k > 9)) (w : World) :
    Calls Tryz.prog 6 #[.int .i64 k, .int .i64 n, .int .i64 u] w fun e w' => e = .returned (.bool true) ∧ Below w.heap.size w w' := by
  rcases h with h | ⟨h1, h2⟩ | ⟨h1, h2, h3⟩ | ⟨h1, h2, h3, h4⟩
  all_goals (
    go_enter Tryz.func6, Tryz.ntmps6
    go_wp2
    go_ret
    exact ⟨rfl, Below.refl _ _⟩)
theorem bufNeeds_walk (k : Int) (x0 : (Lit.int .i64 k).wf = true) (n : Int) (x1 : (Lit.int .i64 n).wf = true) (u : Int) (x2 : (Lit.int .i64 u).wf = true) (w : World) :
    Calls Tryz.prog 6 #[.int .i64 k, .int .i64 n, .int .i64 u] w fun e w' => e = .returned (.bool true) ∧ Below w.heap.size w w' := by
  by_cases a1 : u < 0
  · exact bn_bad k n u (.inl a1) w
  by_cases a2 : u > 2000
  · exact bn_bad k n u (.inr (.inl ⟨a1, a2⟩)) w
  by_cases h5 : k < 5
  · exact bn_bad k n u (.inr (.inr (.inl ⟨a1, a2, h5⟩))) w
  by_cases h9 : k > 9
  · exact bn_bad k n u (.inr (.inr (.inr ⟨a1, a2, h5, h9⟩))) w
  obtain ⟨v, rfl⟩ : ∃ m : Nat, u = m := ⟨u.toNat, by omega⟩
  have hth : k = 9 ∨ (¬ k = 9 ∧ elB k > 0) := by
    rcases (by omega : k = 5 ∨ k = 6 ∨ k = 7 ∨ k = 8 ∨ k = 9) with rfl | rfl | rfl | rfl | rfl
    · exact .inr ⟨by decide, by decide⟩
    · exact .inr ⟨by decide, by decide⟩
    · exact .inr ⟨by decide, by decide⟩
    · exact .inr ⟨by decide, by decide⟩
    · exact .inl rfl
  by_cases hn : n < 0
  · exact bn_neg k (hth.imp id (fun h => h.2)) h5 h9 n hn v (by omega) w
  obtain ⟨m, rfl⟩ : ∃ j : Nat, n = j := ⟨n.toNat, by omega⟩
  rcases hth with rfl | ⟨hk9, hkb⟩
  · by_cases hle : m ≤ 8 * v / elT 9
    · by_cases hnd : v < 1 + (m * elT 9 + 7) / 8
      · exact bn_full9 m v (by omega) hle hnd w
      · exact bn_fits9 m v (by omega) hle hnd w
    · exact bn_more9 m v (by omega) hle w
  · by_cases hle : m ≤ 8 * v / elT k
    · by_cases hnd : v < 1 + (m * elT k + 7) / 8
      · exact bn_fullb k hkb hk9 h5 h9 m v (by omega) hle hnd w
      · exact bn_fitsb k hkb hk9 h5 h9 m v (by omega) hle hnd w
    · exact bn_moreb k hkb hk9 h5 h9 m v (by omega) hle w
end Go.Proofs.YtenpopelbmeemaaGreat.W
