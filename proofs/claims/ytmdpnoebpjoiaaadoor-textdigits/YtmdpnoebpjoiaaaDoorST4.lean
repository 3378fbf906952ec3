/- Worlds along a statement: the tables lie as they were laid, and what was there stays. -/
import Derived.Test.YtmdpnoebpjoiaaaDoorAW4
import Derived.OpenShut
namespace Go.Proofs.YtmdpnoebpjoiaaaDoor.W
open Go.ChangeShapes Go.WideShapes Go.RowKit

structure St (w wk : World) : Prop where
  tabs : Tabs wk
  below : Below w.heap.size w wk
theorem St.start {w : World} (h : Tabs w) : St w w := ⟨h, Below.refl _ _⟩
theorem St.go {w wk w2 : World} (h : St w wk) (hb : Below wk.heap.size wk w2) : St w w2 := ⟨h.tabs.below hb, bel_trans h.below hb⟩
theorem St.drewN {w wk : World} (h : St w wk) (n : Nat) : St w (wk.drewN n) := h.go (below_drewN (Below.refl _ _) n)
theorem intT_digit (d : Int) (h0 : 0 ≤ d) : intT d = decL d.toNat := by
  unfold intT
  rw [if_neg (by omega)]
  congr 1; omega
theorem str_len (l : List UInt8) : (⟨l.toArray⟩ : ByteArray).size = l.length := by rw [← size_list]
theorem str_max (l : List UInt8) (h : l.length ≤ 1000) : (⟨l.toArray⟩ : ByteArray).size ≤ maxLen := by rw [str_len]; unfold maxLen; omega
end Go.Proofs.YtmdpnoebpjoiaaaDoor.W
