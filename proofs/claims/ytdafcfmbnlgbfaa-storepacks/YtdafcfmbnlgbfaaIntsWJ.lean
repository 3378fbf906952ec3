import Derived.Test.YtdafcfmbnlgbfaaProg
import Derived.WalkKit
import Derived.ProofKit
import Derived.OpenShut
import Derived.ChangeMaps5
import Derived.Deep.SlicePairs
import Derived.Deep.Grids
/- A slice of whole numbers that came in: each is one. -/
namespace Go.Proofs.Ytdafcfmbnlgbfaa.W.Si
open Go.ChangeShapes Go.WideShapes Go.RowKit
set_option linter.unusedVariables false
def IntsW (w : World) (o : Option Addr) (l c : Nat) (N : Nat → Int) : Prop := (o = none ∧ l = 0) ∨ ∃ a, o = some a ∧ ∀ i, i < l → w.cell? (a.add i) = some (.int .i64 (N i)) ∧ (Lit.int .i64 (N i)).wf = true
section
variable {H : Type} {enc : TypeId × Value → H} {w : World} {d : DataW H} {p : List MemPlace} {o : Option Addr} {l c : Nat}
theorem intsw_open (h : DataW.Trod enc Try.prog w 0 (fun _ => true) true 22 (.slice o l c) d p) : ∃ N, IntsW w o l c N := by
  obtain ⟨fuel, hf⟩ := h
  rcases open_ints (k := .i64) Try.underlying22 Try.underlying3 (by kernel_rfl) hf with ⟨hcs, _⟩ | ⟨a, len, cap, zs, hcs, _, hl, hm, hz, _, hcell, hwz⟩
  · simp [Value.cells] at hcs
    obtain ⟨rfl, rfl, rfl⟩ := hcs
    exact ⟨fun _ => 0, .inl ⟨rfl, rfl⟩⟩
  · simp [Value.cells] at hcs
    obtain ⟨rfl, rfl, rfl⟩ := hcs
    simp only [if_true] at hz
    refine ⟨fun i => zs.getD i 0, .inr ⟨_, rfl, fun i hi => ⟨hcell i (by omega), ?_⟩⟩⟩
    have hi' : i < zs.length := by omega
    have e : zs.getD i 0 = zs[i] := by rw [List.getD_eq_getElem?_getD, List.getElem?_eq_getElem hi']; rfl
    show (Lit.int .i64 (zs.getD i 0)).wf = true
    rw [e]
    exact hwz _ (List.getElem_mem hi')
end
end Go.Proofs.Ytdafcfmbnlgbfaa.W.Si
