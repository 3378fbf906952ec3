/-
  No cell of these rows narrows 'for every input' (looked for: loops, veiled, ifaces, maps, wideKeys, modest, calm, conditions, laid).
  DERIVED. THE GIVEN ROWS OF THIS SEAT. 3 by the template 'for every input the law returns true; each argument reads behind the call as it read before'; 0 by the template 'total and deterministic' (their statements: YtignkihhhflelabTotals.lean).
  GIVEN WITH THE SEED: the statements are not yours to turn. If you find one false, say at which input.
  Laid BY PROGRAM, IN A SANDBOX (cutbox-rows.mjs): the forced cells as the released guide's own fill.sh prints them over the translation f17230fca33ecf5e… (all of the seat's roots in one cut). By AI agents, Wed Nov 11 2026. No macro, syntax, notation, axiom, sorry.
-/
import Derived.Test.YtignkihhhflelabChecked
import GoSem.Claim
import GoSem.ClaimJoined
import GoSem.ClaimMapViews
import Derived.JoinedTies
import Derived.KernelRfl
namespace Go.Proofs.Ytignkihhhflelab
/- THE CELL 'sum', in the pinned program and in every row, IS THE sha256 OF THE DUMP (.gsa) THAT YtignkihhhflelabProg.lean LOADS. Nothing in Lean hashes anything: it is a label: what it is worth is what the hold of that sum in a sandbox is worth. -/
noncomputable def Try.pinned : Pinned := { name := "ytignkihhhflelab", sum := "f17230fca33ecf5ed64c160a6570a229146ebd89347f7f047ac30b3a180b97be", checked := Try.checked }
namespace Rows
def none {H : Type} : Left H := { results := [], args := [] }

/-- 'casketlaw2.SoftGrows': WHATEVER THE INPUT: true; the input reads as it did. -/
def softGrowsSpec : ChangeSpec := { name := "softGrows", fn := fun _ => fun
  | [d1, d2, d3] => { results := [.lit (.bool true)], args := [d1, d2, d3] }
  | _ => none }
def softGrowsRow : OpenClaim := { program := "ytignkihhhflelab", sum := "f17230fca33ecf5ed64c160a6570a229146ebd89347f7f047ac30b3a180b97be", func := "casket/casketlaw2.SoftGrows", spec := "softGrows", inPlace := ["math.Float64frombits", "math.Float64bits", "math.Float32bits", "math.Float32frombits", "math.archFloor", "math.archTrunc"], apart := false }
def SoftGrowsSaid : Prop := softGrowsRow.holds Try.pinned (OpenSpec.ofChange softGrowsSpec)

/-- ITS FALSE NEIGHBOUR: 'it returns false'. Refute it at one input. -/
def softGrowsWrong : ChangeSpec := { name := "softGrows", fn := fun _ => fun
  | [d1, d2, d3] => { results := [.lit (.bool false)], args := [d1, d2, d3] }
  | _ => none }
def SoftGrowsWrongFalsely : Prop := softGrowsRow.holds Try.pinned (OpenSpec.ofChange softGrowsWrong)

/-- 'casketlaw2.SoftOnes': WHATEVER THE INPUT: true; the input reads as it did. -/
def softOnesSpec : ChangeSpec := { name := "softOnes", fn := fun _ => fun
  | [d] => { results := [.lit (.bool true)], args := [d] }
  | _ => none }
def softOnesRow : OpenClaim := { program := "ytignkihhhflelab", sum := "f17230fca33ecf5ed64c160a6570a229146ebd89347f7f047ac30b3a180b97be", func := "casket/casketlaw2.SoftOnes", spec := "softOnes", inPlace := ["math.Float64frombits", "math.Float64bits", "math.archFloor", "math.archTrunc"], apart := false }
def SoftOnesSaid : Prop := softOnesRow.holds Try.pinned (OpenSpec.ofChange softOnesSpec)

/-- ITS FALSE NEIGHBOUR: 'it returns false'. Refute it at one input. -/
def softOnesWrong : ChangeSpec := { name := "softOnes", fn := fun _ => fun
  | [d] => { results := [.lit (.bool false)], args := [d] }
  | _ => none }
def SoftOnesWrongFalsely : Prop := softOnesRow.holds Try.pinned (OpenSpec.ofChange softOnesWrong)

/-- 'casketlaw2.SoftFloors': WHATEVER THE INPUT: true; the input reads as it did. -/
def softFloorsSpec : ChangeSpec := { name := "softFloors", fn := fun _ => fun
  | [d] => { results := [.lit (.bool true)], args := [d] }
  | _ => none }
def softFloorsRow : OpenClaim := { program := "ytignkihhhflelab", sum := "f17230fca33ecf5ed64c160a6570a229146ebd89347f7f047ac30b3a180b97be", func := "casket/casketlaw2.SoftFloors", spec := "softFloors", inPlace := ["math.Float64frombits", "math.archFloor", "math.Float64bits", "math.archTrunc"], apart := false }
def SoftFloorsSaid : Prop := softFloorsRow.holds Try.pinned (OpenSpec.ofChange softFloorsSpec)

/-- ITS FALSE NEIGHBOUR: 'it returns false'. Refute it at one input. -/
def softFloorsWrong : ChangeSpec := { name := "softFloors", fn := fun _ => fun
  | [d] => { results := [.lit (.bool false)], args := [d] }
  | _ => none }
def SoftFloorsWrongFalsely : Prop := softFloorsRow.holds Try.pinned (OpenSpec.ofChange softFloorsWrong)

/- THE SECOND FORM. 'bulk': how many values and letters a reading holds, each counted each time it is reached (what is shared counts as often as it is met; a slice's spare places count too). A statement '..UptoSaid' is the law's where the arguments, and the package variables that the reading takes, are together of bulk at most 1048576: NARROWER than '..Said'. Prove '..Said' where nothing that the law and all that it calls make is longer than what came in: it says more and counts as full. Else prove '..UptoSaid'. A law counts once. -/
mutual
def uptoBulk {H : Type} : DataW H → Nat
  | .lit (.string bytes) => bytes.length + 1
  | .lit _ => 1
  | .nil => 1
  | .ptr d => uptoBulk d + 1
  | .slice elems spare => uptoBulkAll elems + uptoBulkAll spare + 1
  | .agg parts => uptoBulkAll parts + 1
  | .iface _ d => uptoBulk d + 1
  | .map entries => uptoBulkEntries entries + 1
  | .held _ => 1
def uptoBulkAll {H : Type} : List (DataW H) → Nat
  | [] => 0
  | d :: r => uptoBulk d + uptoBulkAll r
def uptoBulkEntries {H : Type} : List (Lit × DataW H) → Nat
  | [] => 0
  | x :: r => uptoBulkEntry x + uptoBulkEntries r
def uptoBulkEntry {H : Type} : Lit × DataW H → Nat
  | (.string bytes, d) => bytes.length + uptoBulk d + 1
  | (_, d) => uptoBulk d + 1
 end
def uptoSmall : (H : Type) → List (DataW H) → Bool := fun _ ds => decide (uptoBulkAll ds ≤ 1048576)
def OpenSpec.upto (s : _root_.Go.ChangeSpec) : _root_.Go.OpenSpec := { _root_.Go.OpenSpec.ofChange s with cond := some uptoSmall }

/-- 'casketlaw2.SoftGrows', WHERE WHAT IT READS IS OF BULK AT MOST 1048576: true; the input reads as it did. -/
def softGrowsUptoRow : OpenClaim := { program := "ytignkihhhflelab", sum := "f17230fca33ecf5ed64c160a6570a229146ebd89347f7f047ac30b3a180b97be", func := "casket/casketlaw2.SoftGrows", spec := "softGrows", inPlace := ["math.Float64frombits", "math.Float64bits", "math.Float32bits", "math.Float32frombits", "math.archFloor", "math.archTrunc"], apart := false, narrowed := true }
def SoftGrowsUptoSaid : Prop := softGrowsUptoRow.holds Try.pinned (OpenSpec.upto softGrowsSpec)

/-- 'casketlaw2.SoftOnes', WHERE WHAT IT READS IS OF BULK AT MOST 1048576: true; the input reads as it did. -/
def softOnesUptoRow : OpenClaim := { program := "ytignkihhhflelab", sum := "f17230fca33ecf5ed64c160a6570a229146ebd89347f7f047ac30b3a180b97be", func := "casket/casketlaw2.SoftOnes", spec := "softOnes", inPlace := ["math.Float64frombits", "math.Float64bits", "math.archFloor", "math.archTrunc"], apart := false, narrowed := true }
def SoftOnesUptoSaid : Prop := softOnesUptoRow.holds Try.pinned (OpenSpec.upto softOnesSpec)

/-- 'casketlaw2.SoftFloors', WHERE WHAT IT READS IS OF BULK AT MOST 1048576: true; the input reads as it did. -/
def softFloorsUptoRow : OpenClaim := { program := "ytignkihhhflelab", sum := "f17230fca33ecf5ed64c160a6570a229146ebd89347f7f047ac30b3a180b97be", func := "casket/casketlaw2.SoftFloors", spec := "softFloors", inPlace := ["math.Float64frombits", "math.archFloor", "math.Float64bits", "math.archTrunc"], apart := false, narrowed := true }
def SoftFloorsUptoSaid : Prop := softFloorsUptoRow.holds Try.pinned (OpenSpec.upto softFloorsSpec)

end Rows
end Go.Proofs.Ytignkihhhflelab
