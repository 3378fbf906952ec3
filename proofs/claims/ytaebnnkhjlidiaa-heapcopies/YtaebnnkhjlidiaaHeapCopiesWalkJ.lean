import Derived.Test.YtaebnnkhjlidiaaHcBJ
import Derived.Test.YtaebnnkhjlidiaaCellOpenJ
/- HeapCopies: the walk. -/
namespace Go.Proofs.Ytaebnnkhjlidiaa.W
open Go.ChangeShapes Go.WideShapes Go.RowKit Go.Shelf
set_option linter.unusedVariables false
set_option maxRecDepth 100000 in
theorem hc_bad (n x p : Int) (h : n < 1 ∨ (¬ n < 1 ∧ n > 200) ∨ (¬ n < 1 ∧ ¬ n > 200 ∧ p < 0) ∨ (¬ n < 1 ∧ ¬ n > 200 ∧ ¬ p < 0 ∧ p ≥ n)) (w : World) :
    Calls Try.prog 8 #[.int .i64 n, .int .u8 x, .int .i64 p] w fun e w' => e = .returned (.bool true) ∧ Below w.heap.size w w' := by
  rcases h with h | ⟨h1, h2⟩ | ⟨h1, h2, h3⟩ | ⟨h1, h2, h3, h4⟩
  all_goals (
    go_enter Try.func8, Try.ntmps8
    go_wp2
    go_ret
    exact ⟨rfl, Below.refl _ _⟩)
theorem heapCopies_walk (n : Int) (x0 : (Lit.int .i64 n).wf = true) (x : Int) (x1 : (Lit.int .u8 x).wf = true) (p : Int) (x2 : (Lit.int .i64 p).wf = true) (w : World) :
    Calls Try.prog 8 #[.int .i64 n, .int .u8 x, .int .i64 p] w fun e w' => e = .returned (.bool true) ∧ Below w.heap.size w w' := by
  have hx := wf_u8 x1
  by_cases a1 : n < 1
  · exact hc_bad n x p (.inl a1) w
  by_cases a2 : n > 200
  · exact hc_bad n x p (.inr (.inl ⟨a1, a2⟩)) w
  by_cases a3 : p < 0
  · exact hc_bad n x p (.inr (.inr (.inl ⟨a1, a2, a3⟩))) w
  by_cases a4 : p ≥ n
  · exact hc_bad n x p (.inr (.inr (.inr ⟨a1, a2, a3, a4⟩))) w
  obtain ⟨m, rfl⟩ : ∃ k : Nat, n = k := ⟨n.toNat, by omega⟩
  obtain ⟨a, rfl⟩ : ∃ k : Nat, p = k := ⟨p.toNat, by omega⟩
  obtain ⟨y, rfl⟩ : ∃ k : Nat, x = k := ⟨x.toNat, by omega⟩
  exact hc_main m y a (by omega) (by omega) (by omega) (by omega) w
end Go.Proofs.Ytaebnnkhjlidiaa.W
