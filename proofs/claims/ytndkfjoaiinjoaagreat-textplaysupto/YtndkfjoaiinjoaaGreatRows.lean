/-
  No cell of these rows narrows 'for every input' (looked for: loops, veiled, ifaces, maps, wideKeys, modest, calm, conditions, laid).
  DERIVED. THE GIVEN ROWS OF THIS SEAT. 4 by the template 'for every input the law returns true; each argument reads behind the call as it read before'; 0 by the template 'total and deterministic' (their statements: YtndkfjoaiinjoaaGreatTotals.lean).
  GIVEN WITH THE SEED: the statements are not yours to turn. If you find one false, say at which input.
  Laid BY PROGRAM, IN A SANDBOX (cutbox-rows.mjs): the forced cells as the released guide's own fill.sh prints them over the translation d1c248626043d08c… (all of the seat's roots in one cut). By AI agents, Wed Nov 11 2026. No macro, syntax, notation, axiom, sorry.
-/
import Derived.Test.YtndkfjoaiinjoaaGreatChecked
import GoSem.Claim
import GoSem.ClaimJoined
import GoSem.ClaimMapViews
import Derived.JoinedTies
import Derived.KernelRfl
namespace Go.Proofs.YtndkfjoaiinjoaaGreat
/- THE CELL 'sum', in the pinned program and in every row, IS THE sha256 OF THE DUMP (.gsa) THAT YtndkfjoaiinjoaaGreatProg.lean LOADS. Nothing in Lean hashes anything: it is a label: what it is worth is what the hold of that sum in a sandbox is worth. -/
noncomputable def Tryz.pinned : Pinned := { name := "ytndkfjoaiinjoaagreat", sum := "d1c248626043d08c6dec4c8e5482d61c4a92a79f62023c569ac3dd7166f5d255", checked := Tryz.checked }
namespace Rows
def none {H : Type} : Left H := { results := [], args := [] }

/-- 'casketlaw8.TextThree': WHATEVER THE INPUT: true; the input reads as it did. -/
def textThreeSpec : ChangeSpec := { name := "textThree", fn := fun _ => fun
  | [d1, d2, d3] => { results := [.lit (.bool true)], args := [d1, d2, d3] }
  | _ => none }
def textThreeRow : OpenClaim := { program := "ytndkfjoaiinjoaagreat", sum := "d1c248626043d08c6dec4c8e5482d61c4a92a79f62023c569ac3dd7166f5d255", func := "casket/casketlaw8.TextThree", spec := "textThree", unfollowed := true, recurses := true, apart := false }
def TextThreeSaid : Prop := textThreeRow.holds Tryz.pinned (OpenSpec.ofChange textThreeSpec)

/-- ITS FALSE NEIGHBOUR: 'it returns false'. Refute it at one input. -/
def textThreeWrong : ChangeSpec := { name := "textThree", fn := fun _ => fun
  | [d1, d2, d3] => { results := [.lit (.bool false)], args := [d1, d2, d3] }
  | _ => none }
def TextThreeWrongFalsely : Prop := textThreeRow.holds Tryz.pinned (OpenSpec.ofChange textThreeWrong)

/-- 'casketlaw8.TextCells': WHATEVER THE INPUT: true; the input reads as it did. -/
def textCellsSpec : ChangeSpec := { name := "textCells", fn := fun _ => fun
  | [d1, d2, d3] => { results := [.lit (.bool true)], args := [d1, d2, d3] }
  | _ => none }
def textCellsRow : OpenClaim := { program := "ytndkfjoaiinjoaagreat", sum := "d1c248626043d08c6dec4c8e5482d61c4a92a79f62023c569ac3dd7166f5d255", func := "casket/casketlaw8.TextCells", spec := "textCells", unfollowed := true, recurses := true, apart := false }
def TextCellsSaid : Prop := textCellsRow.holds Tryz.pinned (OpenSpec.ofChange textCellsSpec)

/-- ITS FALSE NEIGHBOUR: 'it returns false'. Refute it at one input. -/
def textCellsWrong : ChangeSpec := { name := "textCells", fn := fun _ => fun
  | [d1, d2, d3] => { results := [.lit (.bool false)], args := [d1, d2, d3] }
  | _ => none }
def TextCellsWrongFalsely : Prop := textCellsRow.holds Tryz.pinned (OpenSpec.ofChange textCellsWrong)

/-- 'casketlaw8.TextHalves': WHATEVER THE INPUT: true; the input reads as it did. -/
def textHalvesSpec : ChangeSpec := { name := "textHalves", fn := fun _ => fun
  | [d1, d2] => { results := [.lit (.bool true)], args := [d1, d2] }
  | _ => none }
def textHalvesRow : OpenClaim := { program := "ytndkfjoaiinjoaagreat", sum := "d1c248626043d08c6dec4c8e5482d61c4a92a79f62023c569ac3dd7166f5d255", func := "casket/casketlaw8.TextHalves", spec := "textHalves", unfollowed := true, recurses := true, apart := false }
def TextHalvesSaid : Prop := textHalvesRow.holds Tryz.pinned (OpenSpec.ofChange textHalvesSpec)

/-- ITS FALSE NEIGHBOUR: 'it returns false'. Refute it at one input. -/
def textHalvesWrong : ChangeSpec := { name := "textHalves", fn := fun _ => fun
  | [d1, d2] => { results := [.lit (.bool false)], args := [d1, d2] }
  | _ => none }
def TextHalvesWrongFalsely : Prop := textHalvesRow.holds Tryz.pinned (OpenSpec.ofChange textHalvesWrong)

/-- 'casketlaw8.TextPlays': WHATEVER THE INPUT: true; the input reads as it did. -/
def textPlaysSpec : ChangeSpec := { name := "textPlays", fn := fun _ => fun
  | [d1, d2] => { results := [.lit (.bool true)], args := [d1, d2] }
  | _ => none }
def textPlaysRow : OpenClaim := { program := "ytndkfjoaiinjoaagreat", sum := "d1c248626043d08c6dec4c8e5482d61c4a92a79f62023c569ac3dd7166f5d255", func := "casket/casketlaw8.TextPlays", spec := "textPlays", unfollowed := true, recurses := true, apart := false }
def TextPlaysSaid : Prop := textPlaysRow.holds Tryz.pinned (OpenSpec.ofChange textPlaysSpec)

/-- ITS FALSE NEIGHBOUR: 'it returns false'. Refute it at one input. -/
def textPlaysWrong : ChangeSpec := { name := "textPlays", fn := fun _ => fun
  | [d1, d2] => { results := [.lit (.bool false)], args := [d1, d2] }
  | _ => none }
def TextPlaysWrongFalsely : Prop := textPlaysRow.holds Tryz.pinned (OpenSpec.ofChange textPlaysWrong)

/- THE SECOND FORM. 'bulk': how many values and letters a reading holds, each counted each time it is reached (what is shared counts as often as it is met; a slice's spare places count too). A statement '..UptoSaid' is the law's where the arguments, and the package variables that the reading takes, are together of bulk at most 1048576: NARROWER than '..Said'. Prove '..Said' where nothing that the law and all that it calls make is longer than what came in: it says more and counts as full. Else prove '..UptoSaid'. A law counts once. -/
mutual
def uptoBulk {H : Type} : DataW H → Nat
  | .lit (.string bytes) => bytes.length + 1
  | .lit _ => 1
  | .nil => 1
  | .ptr d => uptoBulk d + 1
  | .slice elems spare => uptoBulkAll elems + uptoBulkAll spare + 1
  | .agg parts => uptoBulkAll parts + 1
  | .iface _ d => uptoBulk d + 1
  | .map entries => uptoBulkEntries entries + 1
  | .held _ => 1
def uptoBulkAll {H : Type} : List (DataW H) → Nat
  | [] => 0
  | d :: r => uptoBulk d + uptoBulkAll r
def uptoBulkEntries {H : Type} : List (Lit × DataW H) → Nat
  | [] => 0
  | x :: r => uptoBulkEntry x + uptoBulkEntries r
def uptoBulkEntry {H : Type} : Lit × DataW H → Nat
  | (.string bytes, d) => bytes.length + uptoBulk d + 1
  | (_, d) => uptoBulk d + 1
 end
def uptoSmall : (H : Type) → List (DataW H) → Bool := fun _ ds => decide (uptoBulkAll ds ≤ 1048576)
def OpenSpec.upto (s : _root_.Go.ChangeSpec) : _root_.Go.OpenSpec := { _root_.Go.OpenSpec.ofChange s with cond := some uptoSmall }

/-- 'casketlaw8.TextThree', WHERE WHAT IT READS IS OF BULK AT MOST 1048576: true; the input reads as it did. -/
def textThreeUptoRow : OpenClaim := { program := "ytndkfjoaiinjoaagreat", sum := "d1c248626043d08c6dec4c8e5482d61c4a92a79f62023c569ac3dd7166f5d255", func := "casket/casketlaw8.TextThree", spec := "textThree", unfollowed := true, recurses := true, apart := false, narrowed := true }
def TextThreeUptoSaid : Prop := textThreeUptoRow.holds Tryz.pinned (OpenSpec.upto textThreeSpec)

/-- 'casketlaw8.TextCells', WHERE WHAT IT READS IS OF BULK AT MOST 1048576: true; the input reads as it did. -/
def textCellsUptoRow : OpenClaim := { program := "ytndkfjoaiinjoaagreat", sum := "d1c248626043d08c6dec4c8e5482d61c4a92a79f62023c569ac3dd7166f5d255", func := "casket/casketlaw8.TextCells", spec := "textCells", unfollowed := true, recurses := true, apart := false, narrowed := true }
def TextCellsUptoSaid : Prop := textCellsUptoRow.holds Tryz.pinned (OpenSpec.upto textCellsSpec)

/-- 'casketlaw8.TextHalves', WHERE WHAT IT READS IS OF BULK AT MOST 1048576: true; the input reads as it did. -/
def textHalvesUptoRow : OpenClaim := { program := "ytndkfjoaiinjoaagreat", sum := "d1c248626043d08c6dec4c8e5482d61c4a92a79f62023c569ac3dd7166f5d255", func := "casket/casketlaw8.TextHalves", spec := "textHalves", unfollowed := true, recurses := true, apart := false, narrowed := true }
def TextHalvesUptoSaid : Prop := textHalvesUptoRow.holds Tryz.pinned (OpenSpec.upto textHalvesSpec)

/-- 'casketlaw8.TextPlays', WHERE WHAT IT READS IS OF BULK AT MOST 1048576: true; the input reads as it did. -/
def textPlaysUptoRow : OpenClaim := { program := "ytndkfjoaiinjoaagreat", sum := "d1c248626043d08c6dec4c8e5482d61c4a92a79f62023c569ac3dd7166f5d255", func := "casket/casketlaw8.TextPlays", spec := "textPlays", unfollowed := true, recurses := true, apart := false, narrowed := true }
def TextPlaysUptoSaid : Prop := textPlaysUptoRow.holds Tryz.pinned (OpenSpec.upto textPlaysSpec)

end Rows
end Go.Proofs.YtndkfjoaiinjoaaGreat
