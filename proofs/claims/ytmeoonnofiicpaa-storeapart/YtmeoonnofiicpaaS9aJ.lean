import Derived.Test.YtmeoonnofiicpaaProg
import Derived.WalkKit
import Derived.ProofKit
import Derived.OpenShut
import Derived.ChangeMaps5
import Derived.Deep.SlicePairs
import Derived.Deep.Grids
/- A slice of truths that came in. -/
namespace Go.Proofs.Ytmeoonnofiicpaa.W.Si
open Go.ChangeShapes Go.WideShapes Go.RowKit
set_option linter.unusedVariables false
/-- a slice of truths -/
def BoolsAt (w : World) (o : Option Addr) (l c : Nat) (N : Nat → Bool) : Prop := (o = none ∧ l = 0) ∨ ∃ a, o = some a ∧ l ≤ c ∧ c ≤ maxLen ∧ ∀ i, i < l → w.cell? (a.add i) = some (.bool (N i))
section
variable {H : Type} {enc : TypeId × Value → H} {w : World} {d : DataW H} {p : List MemPlace} {o : Option Addr} {l c : Nat}
theorem bools_open (h : DataW.Trod enc Try.prog w 0 (fun _ => true) true 39 (.slice o l c) d p) : ∃ N, BoolsAt w o l c N := by
  obtain ⟨fuel, hf⟩ := h
  rcases Deep.open_bools Try.underlying39 Try.underlying4 (by kernel_rfl) hf with ⟨hcs, _⟩ | ⟨a, len, cap, B, hcs, _, hl, hm, _, hcell⟩
  · simp [Value.cells] at hcs
    obtain ⟨rfl, rfl, rfl⟩ := hcs
    exact ⟨fun _ => false, .inl ⟨rfl, rfl⟩⟩
  · simp [Value.cells] at hcs
    obtain ⟨rfl, rfl, rfl⟩ := hcs
    exact ⟨B, .inr ⟨_, rfl, hl, hm, fun i hi => hcell i (by omega)⟩⟩
end
end Go.Proofs.Ytmeoonnofiicpaa.W.Si
