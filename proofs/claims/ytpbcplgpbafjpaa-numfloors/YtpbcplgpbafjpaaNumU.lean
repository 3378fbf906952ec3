/- Worlds that have only grown: three cells of one of the call's own blocks, written. -/
import Derived.Test.YtpbcplgpbafjpaaNumX
namespace Go.Proofs.Ytpbcplgpbafjpaa.W
open Go.ChangeShapes Go.WideShapes Go.RowKit
theorem upd {w wk W : World} {b : Nat} {x y z p q r : Value} (hW : ((wk.setCell ⟨b, 0, none⟩ x).setCell ⟨b, 1, none⟩ y).setCell ⟨b, 2, none⟩ z = W) (f : ∀ i, wk.cell? ⟨b, i, none⟩ = #[p, q, r][i]?) (hb : w.heap.size ≤ b) (hG : Gr w wk) :
    (∀ i, W.cell? ⟨b, i, none⟩ = #[x, y, z][i]?) ∧ (∀ (n : Nat) (c : Array Value), n ≠ b → (∀ i, wk.cell? ⟨n, i, none⟩ = c[i]?) → ∀ i, W.cell? ⟨n, i, none⟩ = c[i]?) ∧ (∀ n : Nat, (∀ i, wk.frozen? ⟨n, i, none⟩ = false) → ∀ i, W.frozen? ⟨n, i, none⟩ = false) ∧ Gr w W := by
  subst hW
  refine ⟨stored3 f x y z, fun n c h g i => ?_, fun n g i => ?_, hG.store3 hb x y z⟩
  · rw [World.cell?_setCell_far _ _ _ _ (fun e => h e.symm), World.cell?_setCell_far _ _ _ _ (fun e => h e.symm), World.cell?_setCell_far _ _ _ _ (fun e => h e.symm), g]
  · rw [World.frozen?_setCell, World.frozen?_setCell, World.frozen?_setCell, g]
end Go.Proofs.Ytpbcplgpbafjpaa.W
