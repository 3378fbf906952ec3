/- Worlds, as the contracts of package numtext want them: what was there stays; the library's tables lie as they were laid. -/
import Derived.Test.YtdoojooepkdlhaaDoorSoft
import Derived.Test.YtdoojooepkdlhaaDoorP4
import Derived.Below
import Derived.WalkSmall
import Derived.Lib.LaidTab
namespace Go.Proofs.YtdoojooepkdlhaaDoor.W
open Go.ChangeShapes Go.WideShapes Go.RowKit

theorem bel_trans {a b c : World} (h : Below a.heap.size a b) (k : Below b.heap.size b c) : Below a.heap.size a c := h.trans (k.mono h.size)
theorem bel_drewN {a b : World} (h : Below a.heap.size a b) (n : Nat) : Below a.heap.size a (b.drewN n) := below_drewN h n
/-- the table of the library that is read -/
def Tabs (w : World) : Prop := ∀ j, j < Lib.deBruijn64tab.length → w.cell? ⟨1, j, none⟩ = some (.int .u8 (Lib.deBruijn64tab.getD j 0))
/-- it stays -/
theorem Tabs.below {w w' : World} (h2 : Tabs w) (hb : Below w.heap.size w w') : Tabs w' := by
  intro j hj
  have lt : 1 < w.heap.size := by
    apply Nat.lt_of_not_le
    intro hle
    have e : w.heap[1]? = none := Array.getElem?_eq_none hle
    have := h2 j hj
    simp only [World.cell?, e] at this
    cases this
  rw [hb.cell lt]
  exact h2 j hj
theorem Tabs.drewN {w : World} (h : Tabs w) (n : Nat) : Tabs (w.drewN n) := h.below (below_drewN (Below.refl _ _) n)
theorem ret_s {a b : List UInt8} (h : a = b) : Ending.returned (.string ⟨a.toArray⟩) = .returned (.string ⟨b.toArray⟩) := by rw [h]
theorem ret_ib {k : IntKind} {a a' : Int} {b b' : Bool} (h : a = a') (g : b = b') : Ending.returned (.tuple #[.int k a, .bool b]) = .returned (.tuple #[.int k a', .bool b']) := by rw [h, g]
theorem int_eq {k : IntKind} {a b : Int} (h : a = b) : Value.int k a = Value.int k b := by rw [h]
theorem take_snoc (s : ByteArray) (k : Nat) (h : k < s.size) : s.data.toList.take (k + 1) = s.data.toList.take k ++ [s[k]] := by
  rw [List.take_succ_eq_append_getElem (by simpa using h)]; rfl
theorem take_all (s : ByteArray) (k : Nat) (h : ¬ k < s.size) : s.data.toList.take k = s.data.toList := List.take_of_length_le (by simp; omega)
theorem size_list (s : ByteArray) : s.data.toList.length = s.size := by simp
theorem bytes_back (s : ByteArray) : (⟨s.data.toList.toArray⟩ : ByteArray) = s := by simp
end Go.Proofs.YtdoojooepkdlhaaDoor.W
