/- Slices that came in: of whole numbers, of acts. -/
import Derived.Test.YtalcfblknoojpaaProg
import Derived.WalkKit
import Derived.ProofKit
import Derived.OpenShut
import Derived.ChangeMaps5
import Derived.Deep.SlicePairs
import Derived.Deep.Grids
namespace Go.Proofs.Ytalcfblknoojpaa.W.Si
open Go.ChangeShapes Go.WideShapes Go.RowKit
set_option linter.unusedVariables false
theorem wf_u64 {i : Int} (h : (Lit.int .u64 i).wf = true) : 0 ≤ i ∧ i < 18446744073709551616 := by
  simp [Lit.wf] at h
  have e1 : IntKind.u64.min = 0 := by decide
  have e2 : IntKind.u64.max = 18446744073709551615 := by decide
  omega
theorem wf_i64 {i : Int} (h : (Lit.int .i64 i).wf = true) : -9223372036854775808 ≤ i ∧ i ≤ 9223372036854775807 := by
  simp [Lit.wf] at h
  have e1 : IntKind.i64.min = -9223372036854775808 := by decide
  have e2 : IntKind.i64.max = 9223372036854775807 := by decide
  omega
/-- a slice of whole numbers -/
def IntsAt (w : World) (o : Option Addr) (l c : Nat) (N : Nat → Int) : Prop := (o = none ∧ l = 0) ∨ ∃ a, o = some a ∧ l ≤ c ∧ c ≤ maxLen ∧ ∀ i, i < l → w.cell? (a.add i) = some (.int .i64 (N i))
/-- a slice of truths -/
def BoolsAt (w : World) (o : Option Addr) (l c : Nat) (N : Nat → Bool) : Prop := (o = none ∧ l = 0) ∨ ∃ a, o = some a ∧ l ≤ c ∧ c ≤ maxLen ∧ ∀ i, i < l → w.cell? (a.add i) = some (.bool (N i))
/-- a slice of acts -/
def ActsAt (w : World) (o : Option Addr) (l c : Nat) (F : Nat → Bool) (N : Nat → Int) : Prop := (o = none ∧ l = 0) ∨ ∃ a, o = some a ∧ l ≤ c ∧ c ≤ maxLen ∧ ∀ i, i < l → w.cell? (a.add (i * 2)) = some (.bool (F i)) ∧ w.cell? (a.add (i * 2 + 1)) = some (.int .i64 (N i))
section
variable {H : Type} {enc : TypeId × Value → H} {w : World} {d : DataW H} {p : List MemPlace} {o : Option Addr} {l c : Nat}
theorem acts_open (h : DataW.Trod enc Try.prog w 0 (fun _ => true) true 22 (.slice o l c) d p) : ∃ F N, ActsAt w o l c F N := by
  obtain ⟨fuel, hf⟩ := h
  rcases Deep.open_slice_pairs Try.underlying22 Try.underlying32 (by kernel_rfl) rfl rfl (by kernel_rfl) (by kernel_rfl) hf with ⟨hcs, _⟩ | ⟨a, len, cap, m, k, V0, V1, D0, D1, P0, P1, hcs, _, hl, hm, hmm, hx, hall⟩
  · simp [Value.cells] at hcs
    obtain ⟨rfl, rfl, rfl⟩ := hcs
    exact ⟨fun _ => false, fun _ => 0, .inl ⟨rfl, rfl⟩⟩
  · simp [Value.cells] at hcs
    obtain ⟨rfl, rfl, rfl⟩ := hcs
    simp only [if_true] at hmm
    have hb : ∀ i, ∃ b n, i < m → V0 i = .bool b ∧ V1 i = .int .i64 n := by
      intro i
      by_cases hi : i < m
      · obtain ⟨_, _, t0, t1⟩ := hall i hi
        obtain ⟨b, e0, _⟩ := DataW.trod_bool Try.underlying4 t0
        obtain ⟨n, e1, _⟩ := DataW.trod_int Try.underlying3 t1
        simp only [List.cons.injEq, and_true] at e0 e1
        exact ⟨b, n, fun _ => ⟨e0, e1⟩⟩
      · exact ⟨false, 0, fun h => absurd h hi⟩
    have hc := fun i => Classical.choose_spec (Classical.choose_spec (hb i))
    refine ⟨fun i => Classical.choose (hb i), fun i => Classical.choose (Classical.choose_spec (hb i)), .inr ⟨_, rfl, hl, hm, fun i hi => ?_⟩⟩
    obtain ⟨c0, c1, _⟩ := hall i (by omega)
    obtain ⟨e0, e1⟩ := hc i (by omega)
    rw [e0] at c0
    rw [e1] at c1
    exact ⟨c0, c1⟩
end
end Go.Proofs.Ytalcfblknoojpaa.W.Si
