import Derived.Test.YtaebnnkhjlidiabProg
import Derived.WalkKit
import Derived.ProofKit
import Derived.OpenShut
import Derived.ChangeMaps5
import Derived.Deep.SlicePairs
import Derived.Deep.Grids
/- Slices that came in: of whole numbers, of acts. -/
namespace Go.Proofs.Ytaebnnkhjlidiab.W.Si
open Go.ChangeShapes Go.WideShapes Go.RowKit
set_option linter.unusedVariables false
theorem wf_u64 {i : Int} (h : (Lit.int .u64 i).wf = true) : 0 ≤ i ∧ i < 18446744073709551616 := by
  simp [Lit.wf] at h
  have e1 : IntKind.u64.min = 0 := by decide
  have e2 : IntKind.u64.max = 18446744073709551615 := by decide
  omega
theorem wf_i64 {i : Int} (h : (Lit.int .i64 i).wf = true) : -9223372036854775808 ≤ i ∧ i ≤ 9223372036854775807 := by
  simp [Lit.wf] at h
  have e1 : IntKind.i64.min = -9223372036854775808 := by decide
  have e2 : IntKind.i64.max = 9223372036854775807 := by decide
  omega
/-- a slice of whole numbers -/
def IntsAt (w : World) (o : Option Addr) (l c : Nat) (N : Nat → Int) : Prop := (o = none ∧ l = 0) ∨ ∃ a, o = some a ∧ l ≤ c ∧ c ≤ maxLen ∧ ∀ i, i < l → w.cell? (a.add i) = some (.int .i64 (N i))
/-- a slice of truths -/
def BoolsAt (w : World) (o : Option Addr) (l c : Nat) (N : Nat → Bool) : Prop := (o = none ∧ l = 0) ∨ ∃ a, o = some a ∧ l ≤ c ∧ c ≤ maxLen ∧ ∀ i, i < l → w.cell? (a.add i) = some (.bool (N i))
/-- a slice of acts -/
def ActsAt (w : World) (o : Option Addr) (l c : Nat) (F : Nat → Bool) (N : Nat → Int) : Prop := (o = none ∧ l = 0) ∨ ∃ a, o = some a ∧ l ≤ c ∧ c ≤ maxLen ∧ ∀ i, i < l → w.cell? (a.add (i * 2)) = some (.bool (F i)) ∧ w.cell? (a.add (i * 2 + 1)) = some (.int .i64 (N i))
section
variable {H : Type} {enc : TypeId × Value → H} {w : World} {d : DataW H} {p : List MemPlace} {o : Option Addr} {l c : Nat}
theorem ints_open (h : DataW.Trod enc Try.prog w 0 (fun _ => true) true 22 (.slice o l c) d p) : ∃ N, IntsAt w o l c N := by
  obtain ⟨fuel, hf⟩ := h
  rcases open_ints (k := .i64) Try.underlying22 Try.underlying3 (by kernel_rfl) hf with ⟨hcs, _⟩ | ⟨a, len, cap, zs, hcs, _, hl, hm, hz, _, hcell, hwz⟩
  · simp [Value.cells] at hcs
    obtain ⟨rfl, rfl, rfl⟩ := hcs
    exact ⟨fun _ => 0, .inl ⟨rfl, rfl⟩⟩
  · simp [Value.cells] at hcs
    obtain ⟨rfl, rfl, rfl⟩ := hcs
    simp only [if_true] at hz
    exact ⟨fun i => zs.getD i 0, .inr ⟨_, rfl, hl, hm, fun i hi => hcell i (by omega)⟩⟩
theorem bools_open (h : DataW.Trod enc Try.prog w 0 (fun _ => true) true 23 (.slice o l c) d p) : ∃ N, BoolsAt w o l c N := by
  obtain ⟨fuel, hf⟩ := h
  rcases Deep.open_bools Try.underlying23 Try.underlying4 (by kernel_rfl) hf with ⟨hcs, _⟩ | ⟨a, len, cap, B, hcs, _, hl, hm, _, hcell⟩
  · simp [Value.cells] at hcs
    obtain ⟨rfl, rfl, rfl⟩ := hcs
    exact ⟨fun _ => false, .inl ⟨rfl, rfl⟩⟩
  · simp [Value.cells] at hcs
    obtain ⟨rfl, rfl, rfl⟩ := hcs
    exact ⟨B, .inr ⟨_, rfl, hl, hm, fun i hi => hcell i (by omega)⟩⟩
end
end Go.Proofs.Ytaebnnkhjlidiab.W.Si
