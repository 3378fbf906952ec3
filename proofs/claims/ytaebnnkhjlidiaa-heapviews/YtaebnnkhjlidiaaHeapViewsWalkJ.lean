import Derived.Test.YtaebnnkhjlidiaaHvInJ
import Derived.Test.YtaebnnkhjlidiaaHvHiJ
import Derived.Test.YtaebnnkhjlidiaaHvLoJ
import Derived.Test.YtaebnnkhjlidiaaCellOpenJ
/- HeapViews: the walk. -/
namespace Go.Proofs.Ytaebnnkhjlidiaa.W
open Go.ChangeShapes Go.WideShapes Go.RowKit Go.Shelf
set_option linter.unusedVariables false
set_option maxRecDepth 100000 in
theorem hv_bad (sz fr n off x : Int) (h : sz < 0 ∨ (¬ sz < 0 ∧ sz > 300) ∨ (¬ sz < 0 ∧ ¬ sz > 300 ∧ fr < 0) ∨ (¬ sz < 0 ∧ ¬ sz > 300 ∧ ¬ fr < 0 ∧ fr > sz) ∨ (¬ sz < 0 ∧ ¬ sz > 300 ∧ ¬ fr < 0 ∧ ¬ fr > sz ∧ n < 0) ∨ (¬ sz < 0 ∧ ¬ sz > 300 ∧ ¬ fr < 0 ∧ ¬ fr > sz ∧ ¬ n < 0 ∧ IntKind.i64.wrap (sz - fr) = sz - fr ∧ n > sz - fr)) (w : World) :
    Calls Try.prog 6 #[.int .i64 sz, .int .i64 fr, .int .i64 n, .int .i64 off, .int .u8 x] w fun e w' => e = .returned (.bool true) ∧ Below w.heap.size w w' := by
  rcases h with h | ⟨h1, h2⟩ | ⟨h1, h2, h3⟩ | ⟨h1, h2, h3, h4⟩ | ⟨h1, h2, h3, h4, h5⟩ | ⟨h1, h2, h3, h4, h5, h6, h7⟩
  all_goals (
    go_enter Try.func6, Try.ntmps6
    go_wp2
    go_ret
    exact ⟨rfl, Below.refl _ _⟩)
theorem heapViews_walk (sz : Int) (x0 : (Lit.int .i64 sz).wf = true) (fr : Int) (x1 : (Lit.int .i64 fr).wf = true) (n : Int) (x2 : (Lit.int .i64 n).wf = true) (off : Int) (x3 : (Lit.int .i64 off).wf = true) (x : Int) (x4 : (Lit.int .u8 x).wf = true) (w : World) :
    Calls Try.prog 6 #[.int .i64 sz, .int .i64 fr, .int .i64 n, .int .i64 off, .int .u8 x] w fun e w' => e = .returned (.bool true) ∧ Below w.heap.size w w' := by
  have hx := wf_u8 x4
  have ho := wf_i64 x3
  by_cases a1 : sz < 0
  · exact hv_bad sz fr n off x (.inl a1) w
  by_cases a2 : sz > 300
  · exact hv_bad sz fr n off x (.inr (.inl ⟨a1, a2⟩)) w
  by_cases a3 : fr < 0
  · exact hv_bad sz fr n off x (.inr (.inr (.inl ⟨a1, a2, a3⟩))) w
  by_cases a4 : fr > sz
  · exact hv_bad sz fr n off x (.inr (.inr (.inr (.inl ⟨a1, a2, a3, a4⟩)))) w
  by_cases a5 : n < 0
  · exact hv_bad sz fr n off x (.inr (.inr (.inr (.inr (.inl ⟨a1, a2, a3, a4, a5⟩))))) w
  have ws : IntKind.i64.wrap (sz - fr) = sz - fr := by rw [IntKind.wrap_i64]; omega
  by_cases a6 : n > sz - fr
  · exact hv_bad sz fr n off x (.inr (.inr (.inr (.inr (.inr ⟨a1, a2, a3, a4, a5, ws, a6⟩))))) w
  obtain ⟨s, rfl⟩ : ∃ m : Nat, sz = m := ⟨sz.toNat, by omega⟩
  obtain ⟨f, rfl⟩ : ∃ m : Nat, fr = m := ⟨fr.toNat, by omega⟩
  obtain ⟨m, rfl⟩ : ∃ k : Nat, n = k := ⟨n.toNat, by omega⟩
  obtain ⟨y, rfl⟩ : ∃ k : Nat, x = k := ⟨x.toNat, by omega⟩
  by_cases g0 : off ≥ 0
  · by_cases g1 : off < (m : Int)
    · obtain ⟨o, rfl⟩ : ∃ k : Nat, off = k := ⟨off.toNat, by omega⟩
      exact hv_in s f m y o (by omega) (by omega) (by omega) (by omega) w
    · exact hv_hi s f m y off (by omega) (by omega) (by omega) ho g0 g1 w
  · exact hv_lo s f m y off (by omega) (by omega) (by omega) ho g0 w
end Go.Proofs.Ytaebnnkhjlidiaa.W
