/- Worlds that have only grown: so many draws further, with new blocks behind the old ones. -/
import Derived.Test.YtpbcplgpbafjpabSoft
import Derived.Sort.Grow
import Derived.Shelf.SlSortCmp.QuietGrown
import Derived.Deep.RegionHeld3
import Derived.RowKit3
import Derived.Below
namespace Go.Proofs.Ytpbcplgpbafjpab.W
open Go.ChangeShapes Go.WideShapes Go.RowKit

/-- w' is w, some draws further, with new blocks behind the old ones -/
def Gr (w w' : World) : Prop := ∃ q os, w' = Sort.grow (w.drewN q) os
theorem Gr.refl (w : World) : Gr w w := ⟨0, #[], by rw [Sort.grow_empty, World.drewN_zero]⟩
theorem Gr.of_eq {a b : World} (h : a = b) : Gr a b := h ▸ Gr.refl a
theorem Gr.trans {a b c : World} (h : Gr a b) (k : Gr b c) : Gr a c := by
  obtain ⟨q, os, rfl⟩ := h
  obtain ⟨q', os', rfl⟩ := k
  refine ⟨q + q', os ++ os', ?_⟩
  show Sort.grow (Sort.grow ((a.drewN q).drewN q') os) os' = _
  rw [Sort.grow_grow, World.drewN_drewN]
theorem Gr.alloc {a b : World} (h : Gr a b) (o : Obj) : Gr a (b.alloc o) := h.trans ⟨0, #[o], by rw [Sort.alloc_eq_grow, World.drewN_zero]⟩
theorem Gr.draw {a b : World} (h : Gr a b) (n : Nat) : Gr a (b.drewN n) := h.trans ⟨n, #[], by rw [Sort.grow_empty]⟩
theorem Gr.drew {a b : World} (h : Gr a b) : Gr a b.drew := h.draw 1
theorem Gr.of_same {a b : World} (m : Nat) (h : b = a.drewN m) : Gr a b := ⟨m, #[], by rw [h, Sort.grow_empty]⟩
theorem Gr.store {a b : World} (h : Gr a b) {p : Addr} (hp : a.heap.size ≤ p.block) (v : Value) : Gr a (b.setCell p v) := by
  obtain ⟨q, os, rfl⟩ := h
  have e := fun f => Sort.modify_append_right a.heap os p.block f (by exact hp)
  exact ⟨q, _, by unfold World.setCell Sort.grow; exact congrArg (fun h => ({ a.drewN q with heap := h } : World)) (e _)⟩
theorem Gr.size {a b : World} (h : Gr a b) : a.heap.size ≤ b.heap.size := by
  obtain ⟨q, os, rfl⟩ := h
  rw [Sort.size_grow]
  exact Nat.le_add_right _ _
theorem Gr.old {a b : World} (h : Gr a b) {k : Nat} (hk : k < a.heap.size) : b.heap[k]? = a.heap[k]? := by
  obtain ⟨q, os, rfl⟩ := h
  exact Sort.heap_grow_old _ _ (by exact hk)
theorem Gr.below {a b : World} (h : Gr a b) : Below a.heap.size a b := by
  refine ⟨?_, ?_, ?_, h.size, fun k hk => h.old hk⟩ <;> (obtain ⟨q, os, rfl⟩ := h; rfl)
theorem Gr.frozen {a b : World} (h : Gr a b) {n i : Nat} (hn : n < a.heap.size) : b.frozen? ⟨n, i, none⟩ = a.frozen? ⟨n, i, none⟩ := by
  simp only [World.frozen?, h.old hn]
theorem cell_lt {w : World} {n i : Nat} {v : Value} (h : w.cell? ⟨n, i, none⟩ = some v) : n < w.heap.size := by
  false_or_by_contra
  rename_i g
  have e : w.heap[n]? = none := Array.getElem?_eq_none (by omega)
  simp [World.cell?, e] at h
theorem Gr.cells {a b : World} (h : Gr a b) {n : Nat} {c : Array Value} (f : ∀ i, a.cell? ⟨n, i, none⟩ = c[i]?) (hc : 0 < c.size) : ∀ i, b.cell? ⟨n, i, none⟩ = c[i]? := by
  have hn : n < a.heap.size := cell_lt (i := 0) (v := c[0]) (by rw [f 0]; simp [hc])
  intro i
  rw [← f i]
  exact World.cell?_of_block (w := a) (h.old hn)
theorem cells_lt {w : World} {n : Nat} {c : Array Value} (f : ∀ i, w.cell? ⟨n, i, none⟩ = c[i]?) (hc : 0 < c.size) : n < w.heap.size := cell_lt (i := 0) (v := c[0]) (by rw [f 0]; simp [hc])
theorem Gr.of_alloc {a b : World} {o : Obj} (h : Gr (a.alloc o) b) : Gr a b := ((Gr.refl a).alloc o).trans h
theorem Gr.of_drew {a b : World} (h : Gr a.drew b) : Gr a b := (Gr.refl a).drew.trans h
theorem Gr.new {a b : World} {c : Array Value} {t : TypeId} (h : Gr (a.alloc (.cells c t)) b) (hc : 0 < c.size) : ∀ i, b.cell? ⟨a.heap.size, i, none⟩ = c[i]? :=
  h.cells (fun i => World.cell?_alloc_at c t _ i rfl) hc
theorem Gr.thaw {a b : World} (h : Gr a b) {n : Nat} {c : Array Value} (f : ∀ i, a.cell? ⟨n, i, none⟩ = c[i]?) (hc : 0 < c.size) (z : ∀ i, a.frozen? ⟨n, i, none⟩ = false) : ∀ i, b.frozen? ⟨n, i, none⟩ = false := by
  have hn : n < a.heap.size := cell_lt (i := 0) (v := c[0]) (by rw [f 0]; simp [hc])
  intro i
  rw [h.frozen hn]
  exact z i
theorem cells_alloc {w : World} {n : Nat} {c : Array Value} (o : Obj) (f : ∀ i, w.cell? ⟨n, i, none⟩ = c[i]?) (hc : 0 < c.size) : ∀ i, (w.alloc o).cell? ⟨n, i, none⟩ = c[i]? := ((Gr.refl w).alloc o).cells f hc
theorem size_alloc (w : World) (o : Obj) : (w.alloc o).heap.size = w.heap.size + 1 := by rw [Sort.alloc_eq_grow, Sort.size_grow]; rfl
theorem frozen_new (w : World) (c : Array Value) (t : TypeId) (n i : Nat) (hn : n = w.heap.size) : (w.alloc (.cells c t)).frozen? ⟨n, i, none⟩ = false := by
  rw [frozen?_alloc_cells, World.frozen?]
  have : w.heap[n]? = none := Array.getElem?_eq_none (by omega)
  rw [this]
/-- a new block -/
theorem Gr.one {w w' : World} {A : Array Value} {s : TypeId} (h : Gr (w.alloc (.cells A s)) w') (hA : 0 < A.size) :
    (∀ i, w'.cell? ⟨w.heap.size, i, none⟩ = A[i]?) ∧ (∀ i, w'.frozen? ⟨w.heap.size, i, none⟩ = false) ∧ Gr w w' :=
  ⟨h.new hA, h.thaw (fun i => World.cell?_alloc_at A s _ i rfl) hA (fun i => frozen_new w A s _ i rfl), h.of_alloc⟩
/-- two new blocks -/
theorem Gr.two {w w' : World} {A B : Array Value} {s t : TypeId} (h : Gr ((w.alloc (.cells A s)).alloc (.cells B t)) w') (hA : 0 < A.size) (hB : 0 < B.size) :
    (∀ i, w'.cell? ⟨w.heap.size, i, none⟩ = A[i]?) ∧ (∀ i, w'.cell? ⟨w.heap.size + 1, i, none⟩ = B[i]?) ∧ Gr w w' := by
  refine ⟨h.cells (cells_alloc _ (fun i => World.cell?_alloc_at A s _ i rfl) hA) hA, ?_, h.of_alloc.of_alloc⟩
  have e := h.new hB
  rwa [size_alloc] at e
/-- two new blocks, the second one to be written -/
theorem Gr.pair {w w' : World} {A R : Array Value} {s r : TypeId} (h : Gr ((w.alloc (.cells A s)).alloc (.cells R r)) w') (hA : 0 < A.size) (hR : 0 < R.size) :
    (∀ i, w'.cell? ⟨w.heap.size, i, none⟩ = A[i]?) ∧ (∀ i, w'.cell? ⟨w.heap.size + 1, i, none⟩ = R[i]?) ∧ (∀ i, w'.frozen? ⟨w.heap.size + 1, i, none⟩ = false) ∧ Gr w w' := by
  obtain ⟨f1, f2, f3⟩ := h.two hA hR
  refine ⟨f1, f2, h.thaw (fun i => World.cell?_alloc_at R r (w.heap.size + 1) i (by rw [size_alloc])) hR (fun i => frozen_new _ R r _ i (by rw [size_alloc])), f3⟩
/-- three new blocks -/
theorem Gr.three {w w' : World} {A B R : Array Value} {s t r : TypeId} (h : Gr (((w.alloc (.cells A s)).alloc (.cells B t)).alloc (.cells R r)) w') (hA : 0 < A.size) (hB : 0 < B.size) (hR : 0 < R.size) :
    (∀ i, w'.cell? ⟨w.heap.size, i, none⟩ = A[i]?) ∧ (∀ i, w'.cell? ⟨w.heap.size + 1, i, none⟩ = B[i]?) ∧ (∀ i, w'.cell? ⟨w.heap.size + 1 + 1, i, none⟩ = R[i]?) ∧ (∀ i, w'.frozen? ⟨w.heap.size + 1 + 1, i, none⟩ = false) ∧ Gr w w' := by
  obtain ⟨f1, f2, f3⟩ := h.of_alloc.two hA hB
  have e := h.new hR
  have z : ∀ i, (((w.alloc (.cells A s)).alloc (.cells B t)).alloc (.cells R r)).frozen? ⟨w.heap.size + 1 + 1, i, none⟩ = false := by
    intro i
    rw [frozen?_alloc_cells, World.frozen?]
    have : ((w.alloc (.cells A s)).alloc (.cells B t)).heap[w.heap.size + 1 + 1]? = none := Array.getElem?_eq_none (by rw [size_alloc, size_alloc]; omega)
    rw [this]
  have c := fun i => World.cell?_alloc_at (w := (w.alloc (.cells A s)).alloc (.cells B t)) R r (w.heap.size + 1 + 1) i (by rw [size_alloc, size_alloc])
  rw [size_alloc, size_alloc] at e
  exact ⟨f1, f2, e, h.thaw c hR z, f3⟩
end Go.Proofs.Ytpbcplgpbafjpab.W
