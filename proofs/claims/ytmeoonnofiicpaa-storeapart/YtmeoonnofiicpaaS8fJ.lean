import Derived.Test.YtmeoonnofiicpaaProg
import Derived.WalkKit
import Derived.ProofKit
import Derived.OpenShut
import Derived.ChangeMaps5
import Derived.Deep.SlicePairs
import Derived.Deep.Grids
/- A slice of acts, of six numbers each, that came in. -/
namespace Go.Proofs.Ytmeoonnofiicpaa.W.Si
open Go.ChangeShapes Go.WideShapes Go.RowKit
set_option linter.unusedVariables false
/-- what is done -/
structure A6 where
  what : Int
  n : Int
  id : Int
  off : Int
  wd : Int
  x : Int
def A6.cells (a : A6) : List Value := [.int .i64 a.what, .int .i64 a.n, .int .i64 a.id, .int .i64 a.off, .int .i64 a.wd, .int .u64 a.x]
def A6.wf (a : A6) : Prop := (Lit.int .i64 a.what).wf = true ∧ (Lit.int .i64 a.n).wf = true ∧ (Lit.int .i64 a.id).wf = true ∧ (Lit.int .i64 a.off).wf = true ∧ (Lit.int .i64 a.wd).wf = true ∧ (Lit.int .u64 a.x).wf = true
/-- a slice of them -/
def Acts6 (w : World) (o : Option Addr) (l c : Nat) (F : Nat → A6) : Prop := (o = none ∧ l = 0) ∨ ∃ a, o = some a ∧ l ≤ c ∧ c ≤ maxLen ∧ ∀ i, i < l → (F i).wf ∧ ∀ j, j < 6 → w.cell? (a.add (i * 6 + j)) = (F i).cells[j]?
section
variable {H : Type} {enc : TypeId × Value → H} {w : World} {d : DataW H} {p : List MemPlace} {o : Option Addr} {l c : Nat}
theorem acts6_open (h : DataW.Trod enc Try.prog w 0 (fun _ => true) true 22 (.slice o l c) d p) : ∃ F, Acts6 w o l c F := by
  obtain ⟨fuel, hf⟩ := h
  rcases Deep.open_slice Try.underlying22 hf with ⟨hcs, _⟩ | ⟨a, len, cap, m, k, D, Pl, hcs, _, hl, hm, hmm, hx, hall⟩
  · simp [Value.cells] at hcs
    obtain ⟨rfl, rfl, rfl⟩ := hcs
    exact ⟨fun _ => ⟨0, 0, 0, 0, 0, 0⟩, .inl ⟨rfl, rfl⟩⟩
  · simp [Value.cells] at hcs
    obtain ⟨rfl, rfl, rfl⟩ := hcs
    simp only [if_true] at hmm
    have ce : Try.prog.cellsOf 33 = 6 := by kernel_rfl
    have ci : Try.prog.cellsOf 3 = 1 := by kernel_rfl
    have cu : Try.prog.cellsOf 31 = 1 := by kernel_rfl
    have hb : ∀ i, ∃ F : A6, i < m → F.wf ∧ ∀ j, j < 6 → w.cell? (a.add (i * 6 + j)) = F.cells[j]? := by
      intro i
      by_cases hi : i < m
      · obtain ⟨cs', h1, h2⟩ := hall i hi
        rw [ce] at h1
        obtain ⟨_, hlen, hcell⟩ := World.cells?_some h1
        obtain ⟨xs, k', hk, hxy, _, hxl, hfs⟩ := DataW.trod_struct Try.underlying33 h2
        match xs, hxl, cs', hlen with
        | [y0, y1, y2, y3, y4, y5], _, [v0, v1, v2, v3, v4, v5], _ =>
          have g0 := hfs 0 _ rfl
          have g1 := hfs 1 _ rfl
          have g2 := hfs 2 _ rfl
          have g3 := hfs 3 _ rfl
          have g4 := hfs 4 _ rfl
          have g5 := hfs 5 _ rfl
          simp [ci, cu] at g0 g1 g2 g3 g4 g5
          obtain ⟨n0, e0, _, f0⟩ := DataW.trod_int Try.underlying3 g0
          obtain ⟨n1, e1, _, f1⟩ := DataW.trod_int Try.underlying3 g1
          obtain ⟨n2, e2, _, f2⟩ := DataW.trod_int Try.underlying3 g2
          obtain ⟨n3, e3, _, f3⟩ := DataW.trod_int Try.underlying3 g3
          obtain ⟨n4, e4, _, f4⟩ := DataW.trod_int Try.underlying3 g4
          obtain ⟨n5, e5, _, f5⟩ := DataW.trod_int Try.underlying31 g5
          simp only [List.cons.injEq, and_true] at e0 e1 e2 e3 e4 e5
          refine ⟨⟨n0, n1, n2, n3, n4, n5⟩, fun _ => ⟨⟨f0, f1, f2, f3, f4, f5⟩, fun j hj => ?_⟩⟩
          have h3 := hcell j hj
          rw [Deep.add_add] at h3
          rw [h3]
          subst e0 e1 e2 e3 e4 e5
          rfl
      · exact ⟨⟨0, 0, 0, 0, 0, 0⟩, fun h => absurd h hi⟩
    refine ⟨fun i => Classical.choose (hb i), .inr ⟨_, rfl, hl, hm, fun i hi => Classical.choose_spec (hb i) (by omega)⟩⟩
end
end Go.Proofs.Ytmeoonnofiicpaa.W.Si
