/- Worlds that have only grown: a new block that is laid ahead of a call, and written behind it. -/
import Derived.Test.YtpbcplgpbafjpabNumW
namespace Go.Proofs.Ytpbcplgpbafjpab.W
open Go.ChangeShapes Go.WideShapes Go.RowKit

theorem Gr.one_drew {w w' : World} {A : Array Value} {s : TypeId} (h : Gr (w.drew.alloc (.cells A s)) w') (hA : 0 < A.size) :
    (∀ i, w'.cell? ⟨w.heap.size, i, none⟩ = A[i]?) ∧ (∀ i, w'.frozen? ⟨w.heap.size, i, none⟩ = false) ∧ Gr w w' := by
  obtain ⟨h1, h2, h3⟩ := h.one hA
  exact ⟨h1, h2, h3.of_drew⟩
theorem far1 {w : World} {A : Array Value} {n : Nat} {b : Nat} (hb : n < b) (fA : ∀ i, w.cell? ⟨n, i, none⟩ = A[i]?) (x y z : Value) :
    ∀ i, (((w.setCell ⟨b, 0, none⟩ x).setCell ⟨b, 1, none⟩ y).setCell ⟨b, 2, none⟩ z).cell? ⟨n, i, none⟩ = A[i]? := by
  have h1 : b ≠ n := by omega
  intro i
  rw [World.cell?_setCell_far _ _ _ _ h1, World.cell?_setCell_far _ _ _ _ h1, World.cell?_setCell_far _ _ _ _ h1, fA]
/-- three cells, written -/
theorem stored3 {w : World} {n : Nat} {p q r : Value} (f : ∀ i, w.cell? ⟨n, i, none⟩ = #[p, q, r][i]?) (x y z : Value) :
    ∀ i, (((w.setCell ⟨n, 0, none⟩ x).setCell ⟨n, 1, none⟩ y).setCell ⟨n, 2, none⟩ z).cell? ⟨n, i, none⟩ = #[x, y, z][i]? := by
  have ne : ∀ a b : Nat, a ≠ b → (⟨n, a, none⟩ : Addr) ≠ ⟨n, b, none⟩ := fun a b h e => h (by injection e)
  have s0 : w.cell? ⟨n, 0, none⟩ = some p := f 0
  have s1 : w.cell? ⟨n, 1, none⟩ = some q := f 1
  have s2 : w.cell? ⟨n, 2, none⟩ = some r := f 2
  have t1 : (w.setCell ⟨n, 0, none⟩ x).cell? ⟨n, 1, none⟩ = some q := by rw [World.cell?_setCell_other (h := ne 0 1 (by decide)), s1]
  have t2 : ((w.setCell ⟨n, 0, none⟩ x).setCell ⟨n, 1, none⟩ y).cell? ⟨n, 2, none⟩ = some r := by rw [World.cell?_setCell_other (h := ne 1 2 (by decide)), World.cell?_setCell_other (h := ne 0 2 (by decide)), s2]
  intro i
  match i with
  | 0 => rw [World.cell?_setCell_other (h := ne 2 0 (by decide)), World.cell?_setCell_other (h := ne 1 0 (by decide)), World.cell?_setCell_same (h := s0)]; rfl
  | 1 => rw [World.cell?_setCell_other (h := ne 2 1 (by decide)), World.cell?_setCell_same (h := t1)]; rfl
  | 2 => rw [World.cell?_setCell_same (h := t2)]; rfl
  | k + 3 =>
    rw [World.cell?_setCell_other (h := ne 2 (k + 3) (by omega)), World.cell?_setCell_other (h := ne 1 (k + 3) (by omega)), World.cell?_setCell_other (h := ne 0 (k + 3) (by omega)), f (k + 3)]
    rfl
theorem Gr.store3 {a b : World} (h : Gr a b) {n : Nat} (hn : a.heap.size ≤ n) (x y z : Value) : Gr a (((b.setCell ⟨n, 0, none⟩ x).setCell ⟨n, 1, none⟩ y).setCell ⟨n, 2, none⟩ z) :=
  ((h.store (p := ⟨n, 0, none⟩) hn x).store (p := ⟨n, 1, none⟩) hn y).store (p := ⟨n, 2, none⟩) hn z
end Go.Proofs.Ytpbcplgpbafjpab.W
