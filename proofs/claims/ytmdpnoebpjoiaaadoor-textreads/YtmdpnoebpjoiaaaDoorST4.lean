/- Worlds along a statement: the tables lie as they were laid, and what was there stays. -/
import Derived.Test.YtmdpnoebpjoiaaaDoorAW4
import Derived.OpenShut
namespace Go.Proofs.YtmdpnoebpjoiaaaDoor.W
open Go.ChangeShapes Go.WideShapes Go.RowKit

structure St (w wk : World) : Prop where
  tabs : Tabs wk
  below : Below w.heap.size w wk
theorem St.start {w : World} (h : Tabs w) : St w w := ⟨h, Below.refl _ _⟩
theorem St.go {w wk w2 : World} (h : St w wk) (hb : Below wk.heap.size wk w2) : St w w2 := ⟨h.tabs.below hb, bel_trans h.below hb⟩
theorem St.drewN {w wk : World} (h : St w wk) (n : Nat) : St w (wk.drewN n) := h.go (below_drewN (Below.refl _ _) n)
theorem St.alloc {w wk : World} (h : St w wk) (o : Obj) : St w (wk.alloc o) := h.go ((Below.refl _ _).alloc (Nat.le_refl _) o)
/-- a block of the call's own, and what it holds -/
structure Blk (w : World) (b : Nat) (c : Array Value) : Prop where
  lt : b < w.heap.size
  cells : ∀ i, w.cell? ⟨b, i, none⟩ = c[i]?
theorem Blk.go {w w2 : World} {b : Nat} {c : Array Value} (h : Blk w b c) (hb : Below w.heap.size w w2) : Blk w2 b c :=
  ⟨Nat.lt_of_lt_of_le h.lt hb.size, fun i => by rw [hb.cell h.lt]; exact h.cells i⟩
theorem Blk.alloc {w : World} {b : Nat} {c : Array Value} (h : Blk w b c) (o : Obj) : Blk (w.alloc o) b c := h.go ((Below.refl _ _).alloc (Nat.le_refl _) o)
theorem Blk.new (w : World) (c : Array Value) (t : TypeId) : Blk (w.alloc (.cells c t)) w.heap.size c := ⟨by simp, fun _ => World.cell?_alloc_new w _ _ _⟩
theorem intT_digit (d : Int) (h0 : 0 ≤ d) : intT d = decL d.toNat := by
  unfold intT
  rw [if_neg (by omega)]
  congr 1; omega
theorem str_len (l : List UInt8) : (⟨l.toArray⟩ : ByteArray).size = l.length := by rw [← size_list]
theorem str_max (l : List UInt8) (h : l.length ≤ 1000) : (⟨l.toArray⟩ : ByteArray).size ≤ maxLen := by rw [str_len]; unfold maxLen; omega
end Go.Proofs.YtmdpnoebpjoiaaaDoor.W
