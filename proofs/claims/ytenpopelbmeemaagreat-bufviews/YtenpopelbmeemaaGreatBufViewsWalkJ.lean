import Derived.Test.YtenpopelbmeemaaGreatBvBJ
import Derived.Test.YtenpopelbmeemaaGreatCellOpenJ
/- BufViews: the walk. -/
namespace Go.Proofs.YtenpopelbmeemaaGreat.W
open Go.ChangeShapes Go.WideShapes Go.RowKit Go.Shelf
set_option linter.unusedVariables false
set_option maxRecDepth 100000 in
set_option maxHeartbeats 1000000 in
theorem bv_bad (n f s i m x : Int) (h : (n < 0) ∨ (¬ n < 0 ∧ n > 200) ∨ (¬ n < 0 ∧ ¬ n > 200 ∧ f < 0) ∨ (¬ n < 0 ∧ ¬ n > 200 ∧ ¬ f < 0 ∧ s < 0) ∨ (¬ n < 0 ∧ ¬ n > 200 ∧ ¬ f < 0 ∧ ¬ s < 0 ∧ f > n) ∨ (¬ n < 0 ∧ ¬ n > 200 ∧ ¬ f < 0 ∧ ¬ s < 0 ∧ ¬ f > n ∧ IntKind.i64.wrap (n - f) = n - f ∧ s > n - f) ∨ (¬ n < 0 ∧ ¬ n > 200 ∧ ¬ f < 0 ∧ ¬ s < 0 ∧ ¬ f > n ∧ ¬ s > n - f ∧ IntKind.i64.wrap (n - f) = n - f ∧ i < 0) ∨ (¬ n < 0 ∧ ¬ n > 200 ∧ ¬ f < 0 ∧ ¬ s < 0 ∧ ¬ f > n ∧ ¬ s > n - f ∧ ¬ i < 0 ∧ IntKind.i64.wrap (n - f) = n - f ∧ m < 0) ∨ (¬ n < 0 ∧ ¬ n > 200 ∧ ¬ f < 0 ∧ ¬ s < 0 ∧ ¬ f > n ∧ ¬ s > n - f ∧ ¬ i < 0 ∧ ¬ m < 0 ∧ IntKind.i64.wrap (n - f) = n - f ∧ i > s) ∨ (¬ n < 0 ∧ ¬ n > 200 ∧ ¬ f < 0 ∧ ¬ s < 0 ∧ ¬ f > n ∧ ¬ s > n - f ∧ ¬ i < 0 ∧ ¬ m < 0 ∧ ¬ i > s ∧ IntKind.i64.wrap (n - f) = n - f ∧ IntKind.i64.wrap (s - i) = s - i ∧ m > s - i)) (w : World) :
    Calls Tryz.prog 4 #[.int .i64 n, .int .i64 f, .int .i64 s, .int .i64 i, .int .i64 m, .int .u8 x] w fun e w' => e = .returned (.bool true) ∧ Below w.heap.size w w' := by
  rcases h with h0 | ⟨h0, h1⟩ | ⟨h0, h1, h2⟩ | ⟨h0, h1, h2, h3⟩ | ⟨h0, h1, h2, h3, h4⟩ | ⟨h0, h1, h2, h3, h4, h5, h6⟩ | ⟨h0, h1, h2, h3, h4, h5, h6, h7⟩ | ⟨h0, h1, h2, h3, h4, h5, h6, h7, h8⟩ | ⟨h0, h1, h2, h3, h4, h5, h6, h7, h8, h9⟩ | ⟨h0, h1, h2, h3, h4, h5, h6, h7, h8, h9, h10, h11⟩
  all_goals (
    go_enter Tryz.func4, Tryz.ntmps4
    go_wp2
    go_ret
    exact ⟨rfl, Below.refl _ _⟩)
theorem bufViews_walk (n : Int) (x0 : (Lit.int .i64 n).wf = true) (f : Int) (x1 : (Lit.int .i64 f).wf = true) (s : Int) (x2 : (Lit.int .i64 s).wf = true) (i : Int) (x3 : (Lit.int .i64 i).wf = true) (m : Int) (x4 : (Lit.int .i64 m).wf = true) (x : Int) (x5 : (Lit.int .u8 x).wf = true) (w : World) :
    Calls Tryz.prog 4 #[.int .i64 n, .int .i64 f, .int .i64 s, .int .i64 i, .int .i64 m, .int .u8 x] w fun e w' => e = .returned (.bool true) ∧ Below w.heap.size w w' := by
  have hx := wf_u8 x5
  by_cases a0 : n < 0
  · exact bv_bad n f s i m x (.inl a0) w
  by_cases a1 : n > 200
  · exact bv_bad n f s i m x (.inr (.inl ⟨a0, a1⟩)) w
  by_cases a2 : f < 0
  · exact bv_bad n f s i m x (.inr (.inr (.inl ⟨a0, a1, a2⟩))) w
  by_cases a3 : s < 0
  · exact bv_bad n f s i m x (.inr (.inr (.inr (.inl ⟨a0, a1, a2, a3⟩)))) w
  by_cases a4 : f > n
  · exact bv_bad n f s i m x (.inr (.inr (.inr (.inr (.inl ⟨a0, a1, a2, a3, a4⟩))))) w
  have w1 : IntKind.i64.wrap (n - f) = n - f := by rw [IntKind.wrap_i64]; omega
  by_cases a5 : s > n - f
  · exact bv_bad n f s i m x (.inr (.inr (.inr (.inr (.inr (.inl ⟨a0, a1, a2, a3, a4, w1, a5⟩)))))) w
  by_cases a6 : i < 0
  · exact bv_bad n f s i m x (.inr (.inr (.inr (.inr (.inr (.inr (.inl ⟨a0, a1, a2, a3, a4, a5, w1, a6⟩))))))) w
  by_cases a7 : m < 0
  · exact bv_bad n f s i m x (.inr (.inr (.inr (.inr (.inr (.inr (.inr (.inl ⟨a0, a1, a2, a3, a4, a5, a6, w1, a7⟩)))))))) w
  by_cases a8 : i > s
  · exact bv_bad n f s i m x (.inr (.inr (.inr (.inr (.inr (.inr (.inr (.inr (.inl ⟨a0, a1, a2, a3, a4, a5, a6, a7, w1, a8⟩))))))))) w
  have w2 : IntKind.i64.wrap (s - i) = s - i := by rw [IntKind.wrap_i64]; omega
  by_cases a9 : m > s - i
  · exact bv_bad n f s i m x (.inr (.inr (.inr (.inr (.inr (.inr (.inr (.inr (.inr (⟨a0, a1, a2, a3, a4, a5, a6, a7, a8, w1, w2, a9⟩)))))))))) w
  obtain ⟨n', rfl⟩ : ∃ k : Nat, n = k := ⟨n.toNat, by omega⟩
  obtain ⟨f', rfl⟩ : ∃ k : Nat, f = k := ⟨f.toNat, by omega⟩
  obtain ⟨s', rfl⟩ : ∃ k : Nat, s = k := ⟨s.toNat, by omega⟩
  obtain ⟨i', rfl⟩ : ∃ k : Nat, i = k := ⟨i.toNat, by omega⟩
  obtain ⟨m', rfl⟩ : ∃ k : Nat, m = k := ⟨m.toNat, by omega⟩
  obtain ⟨y, rfl⟩ : ∃ k : Nat, x = k := ⟨x.toNat, by omega⟩
  exact bv_main n' f' s' i' m' (f' + i') y (by omega) (by omega) (by omega) rfl (by omega) w
end Go.Proofs.YtenpopelbmeemaaGreat.W
