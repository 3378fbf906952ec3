import Derived.Test.YtenpopelbmeemaaGreatBwDJ
import Derived.Test.YtenpopelbmeemaaGreatBwEJ
import Derived.Test.YtenpopelbmeemaaGreatCellOpenJ
/- BufOutside: the walk. -/
namespace Go.Proofs.YtenpopelbmeemaaGreat.W
open Go.ChangeShapes Go.WideShapes Go.RowKit Go.Shelf
set_option linter.unusedVariables false
set_option maxRecDepth 100000 in
theorem bo_bad (k n i : Int) (h : n < 0 ∨ (¬ n < 0 ∧ n > 100) ∨ (¬ n < 0 ∧ ¬ n > 100 ∧ k < 5) ∨ (¬ n < 0 ∧ ¬ n > 100 ∧ ¬ k < 5 ∧ k > 9)) (w : World) :
    Calls Tryz.prog 5 #[.int .i64 k, .int .i64 n, .int .i64 i] w fun e w' => e = .returned (.bool true) ∧ Below w.heap.size w w' := by
  rcases h with h | ⟨h1, h2⟩ | ⟨h1, h2, h3⟩ | ⟨h1, h2, h3, h4⟩
  all_goals (
    go_enter Tryz.func5, Tryz.ntmps5
    go_wp2
    go_ret
    exact ⟨rfl, Below.refl _ _⟩)
theorem bo_all (k i z o : Int) (n : Nat) (hk : thK k) (hk5 : ¬ k < 5) (hk9 : ¬ k > 9) (hn : n ≤ 100) (hz1 : ¬ z = 18444773748872577025) (hz2 : ¬ z = 4607182418800017408) (ho : o = 18444773748872577025 ∨ o = 4607182418800017408) (wy : Ways k n z o) (hcn : isTh (blankH k n) ∧ (blankH k n).cnt = n) (w : World) :
    Calls Tryz.prog 5 #[.int .i64 k, .int .i64 n, .int .i64 i] w fun e w' => e = .returned (.bool true) ∧ Below w.heap.size w w' := by
  by_cases g0 : i ≥ 0
  · by_cases g1 : i < (n : Int)
    · obtain ⟨j, rfl⟩ : ∃ m : Nat, i = m := ⟨i.toNat, by omega⟩
      exact bo_in k n j z o hk hk5 hk9 hn (by omega) hz1 hz2 ho wy w
    · exact bo_hi k n i z o hk hk5 hk9 hn (by omega) g0 g1 hcn hz1 hz2 ho wy w
  · exact bo_lo k n i z o hk hk5 hk9 hn (by omega) g0 hcn hz1 hz2 ho wy w
theorem blank_cnt (k : Int) (n wd : Nat) (h9 : ¬ k = 9) (he : elB k = wd) (hp : 0 < wd) : isTh (blankH k n) ∧ (blankH k n).cnt = n := by
  unfold blankH
  rw [if_neg h9]
  refine ⟨trivial, ?_⟩
  show (List.replicate (n * elB k) 0).length / elB k = n
  rw [List.length_replicate, he, Nat.mul_div_cancel _ hp]
theorem bufOutside_walk (k : Int) (x0 : (Lit.int .i64 k).wf = true) (n : Int) (x1 : (Lit.int .i64 n).wf = true) (i : Int) (x2 : (Lit.int .i64 i).wf = true) (w : World) :
    Calls Tryz.prog 5 #[.int .i64 k, .int .i64 n, .int .i64 i] w fun e w' => e = .returned (.bool true) ∧ Below w.heap.size w w' := by
  by_cases a1 : n < 0
  · exact bo_bad k n i (.inl a1) w
  by_cases a2 : n > 100
  · exact bo_bad k n i (.inr (.inl ⟨a1, a2⟩)) w
  by_cases a3 : k < 5
  · exact bo_bad k n i (.inr (.inr (.inl ⟨a1, a2, a3⟩))) w
  by_cases a4 : k > 9
  · exact bo_bad k n i (.inr (.inr (.inr ⟨a1, a2, a3, a4⟩))) w
  obtain ⟨m, rfl⟩ : ∃ m : Nat, n = m := ⟨n.toNat, by omega⟩
  have hm : m ≤ 100 := by omega
  have hk : k = 5 ∨ k = 6 ∨ k = 7 ∨ k = 8 ∨ k = 9 := by omega
  rcases hk with rfl | rfl | rfl | rfl | rfl
  · exact bo_all 5 i _ _ m (.inr (by decide)) a3 a4 hm (by decide) (by decide) (.inr rfl) (ways_doubles m) (blank_cnt 5 m 8 (by decide) rfl (by decide)) w
  · exact bo_all 6 i _ _ m (.inr (by decide)) a3 a4 hm (by decide) (by decide) (.inr rfl) (ways_narrows m) (blank_cnt 6 m 4 (by decide) rfl (by decide)) w
  · exact bo_all 7 i _ _ m (.inr (by decide)) a3 a4 hm (by decide) (by decide) (.inl (by decide)) (ways_shorts m) (blank_cnt 7 m 2 (by decide) rfl (by decide)) w
  · exact bo_all 8 i _ _ m (.inr (by decide)) a3 a4 hm (by decide) (by decide) (.inl (by decide)) (ways_octets m) (blank_cnt 8 m 1 (by decide) rfl (by decide)) w
  · exact bo_all 9 i _ _ m (.inl rfl) a3 a4 hm (by decide) (by decide) (.inl (by decide)) (ways_row m) ⟨trivial, by show (List.replicate m nilN).length = m; rw [List.length_replicate]⟩ w
end Go.Proofs.YtenpopelbmeemaaGreat.W
