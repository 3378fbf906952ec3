/- Package store: how a store lies, in plain words: the ring as a list, and what each Id has. -/
import Derived.Test.YtenbjlmomkiknabS6b
namespace Go.Proofs.Ytenbjlmomkiknab.W
set_option linter.unusedVariables false
/-- an extent with bytes: its block's number, its place, its length -/
structure Ex where
  n : Nat
  p : Nat
  l : Nat
def up8N (l : Nat) : Nat := (l + 7) / 8 * 8
theorem up8N_eq (l : Nat) : up8 (l : Int) = (up8N l : Nat) := by unfold up8 up8N; omega
def Ex.stop (e : Ex) : Nat := e.p + up8N e.l
/-- the front, as an extent -/
def front : Ex := ⟨0, 0, 0⟩
/-- the ring: the front, then the extents in their order -/
def ring (E : List Ex) : List Ex := front :: E
/-- extents lie one behind the other, at multiples of 8 -/
def Lies (E : List Ex) (room : Nat) : Prop := (∀ i e f, (ring E)[i]? = some e → (ring E)[i + 1]? = some f → e.stop ≤ f.p) ∧ (∀ e ∈ E, e.p % 8 = 0 ∧ 0 < e.l ∧ e.n ≠ 0) ∧ (∀ e ∈ ring E, e.stop ≤ room)
/-- the block of an extent of the ring -/
def blkOf (E : List Ex) (i : Nat) (e : Ex) : Blk := ⟨decide (0 < i), e.p, e.l, (((ring E)[if i = 0 then E.length else i - 1]?.map Ex.n).getD 0 : Nat), (((ring E)[i + 1]?.map Ex.n).getD 0 : Nat)⟩
structure Good (s : Sto) (E : List Ex) : Prop where
  nodup : ((ring E).map Ex.n).Nodup
  lies : Lies E s.row.length
  get : ∀ i e, (ring E)[i]? = some e → s.get e.n = some (blkOf E i e)
  byte : ∀ x ∈ s.row, x < 256
  hand : ∃ e ∈ ring E, s.hand = (e.n : Nat)
  zero : ∀ id b, s.blks[id]? = some b → id + 1 ∉ (ring E).map Ex.n → b = noBlk ∨ b = ⟨true, 0, 0, 0, 0⟩
  heap : IsHeap s.free s.free.length
  nodupF : s.free.Nodup
  free : ∀ x : Int, x ∈ s.free ↔ ∃ id : Nat, x = id ∧ s.blks[id]? = some noBlk
  used : s.used = ((E.map (fun e => up8N e.l)).foldr (· + ·) 0 : Nat)
  row8 : s.row.length % 8 = 0
end Go.Proofs.Ytenbjlmomkiknab.W
