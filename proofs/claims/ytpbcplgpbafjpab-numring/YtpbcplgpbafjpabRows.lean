/-
  No cell of these rows narrows 'for every input' (looked for: loops, veiled, ifaces, maps, wideKeys, modest, calm, conditions, laid).
  DERIVED. THE GIVEN ROWS OF THIS SEAT. 6 by the template 'for every input the law returns true; each argument reads behind the call as it read before'; 0 by the template 'total and deterministic' (their statements: YtpbcplgpbafjpabTotals.lean).
  GIVEN WITH THE SEED: the statements are not yours to turn. If you find one false, say at which input.
  Laid BY PROGRAM, IN A SANDBOX (cutbox-rows.mjs): the forced cells as the released guide's own fill.sh prints them over the translation 9ea467483e001b90… (all of the seat's roots in one cut). By AI agents, Wed Nov 11 2026. No macro, syntax, notation, axiom, sorry.
-/
import Derived.Test.YtpbcplgpbafjpabChecked
import GoSem.Claim
import GoSem.ClaimJoined
import GoSem.ClaimMapViews
import Derived.JoinedTies
import Derived.KernelRfl
namespace Go.Proofs.Ytpbcplgpbafjpab
/- THE CELL 'sum', in the pinned program and in every row, IS THE sha256 OF THE DUMP (.gsa) THAT YtpbcplgpbafjpabProg.lean LOADS. Nothing in Lean hashes anything: it is a label: what it is worth is what the hold of that sum in a sandbox is worth. -/
noncomputable def Try.pinned : Pinned := { name := "ytpbcplgpbafjpab", sum := "9ea467483e001b9055c8395486280505c0d2eaf364460ad9dfe66957297d5a14", checked := Try.checked }
namespace Rows
def none {H : Type} : Left H := { results := [], args := [] }

/-- 'casketlaw3.NumRing': WHATEVER THE INPUT: true; the input reads as it did. -/
def numRingSpec : ChangeSpec := { name := "numRing", fn := fun _ => fun
  | [d1, d2] => { results := [.lit (.bool true)], args := [d1, d2] }
  | _ => none }
def numRingRow : OpenClaim := { program := "ytpbcplgpbafjpab", sum := "9ea467483e001b9055c8395486280505c0d2eaf364460ad9dfe66957297d5a14", func := "casket/casketlaw3.NumRing", spec := "numRing", inPlace := ["math.Float64bits", "math.Float64frombits"], apart := false }
def NumRingSaid : Prop := numRingRow.holds Try.pinned (OpenSpec.ofChange numRingSpec)

/-- ITS FALSE NEIGHBOUR: 'it returns false'. Refute it at one input. -/
def numRingWrong : ChangeSpec := { name := "numRing", fn := fun _ => fun
  | [d1, d2] => { results := [.lit (.bool false)], args := [d1, d2] }
  | _ => none }
def NumRingWrongFalsely : Prop := numRingRow.holds Try.pinned (OpenSpec.ofChange numRingWrong)

/-- 'casketlaw3.NumWhere': WHATEVER THE INPUT: true; the input reads as it did. -/
def numWhereSpec : ChangeSpec := { name := "numWhere", fn := fun _ => fun
  | [d1, d2] => { results := [.lit (.bool true)], args := [d1, d2] }
  | _ => none }
def numWhereRow : OpenClaim := { program := "ytpbcplgpbafjpab", sum := "9ea467483e001b9055c8395486280505c0d2eaf364460ad9dfe66957297d5a14", func := "casket/casketlaw3.NumWhere", spec := "numWhere", inPlace := ["math.Float64bits", "math.Float64frombits"], apart := false }
def NumWhereSaid : Prop := numWhereRow.holds Try.pinned (OpenSpec.ofChange numWhereSpec)

/-- ITS FALSE NEIGHBOUR: 'it returns false'. Refute it at one input. -/
def numWhereWrong : ChangeSpec := { name := "numWhere", fn := fun _ => fun
  | [d1, d2] => { results := [.lit (.bool false)], args := [d1, d2] }
  | _ => none }
def NumWhereWrongFalsely : Prop := numWhereRow.holds Try.pinned (OpenSpec.ofChange numWhereWrong)

/-- 'casketlaw3.NumMixes': WHATEVER THE INPUT: true; the input reads as it did. -/
def numMixesSpec : ChangeSpec := { name := "numMixes", fn := fun _ => fun
  | [d1, d2] => { results := [.lit (.bool true)], args := [d1, d2] }
  | _ => none }
def numMixesRow : OpenClaim := { program := "ytpbcplgpbafjpab", sum := "9ea467483e001b9055c8395486280505c0d2eaf364460ad9dfe66957297d5a14", func := "casket/casketlaw3.NumMixes", spec := "numMixes", inPlace := ["math.Float64bits", "math.Float64frombits", "math.archFloor", "math.archTrunc"], apart := false }
def NumMixesSaid : Prop := numMixesRow.holds Try.pinned (OpenSpec.ofChange numMixesSpec)

/-- ITS FALSE NEIGHBOUR: 'it returns false'. Refute it at one input. -/
def numMixesWrong : ChangeSpec := { name := "numMixes", fn := fun _ => fun
  | [d1, d2] => { results := [.lit (.bool false)], args := [d1, d2] }
  | _ => none }
def NumMixesWrongFalsely : Prop := numMixesRow.holds Try.pinned (OpenSpec.ofChange numMixesWrong)

/-- 'casketlaw3.NumDoubles': WHATEVER THE INPUT: true; the input reads as it did. -/
def numDoublesSpec : ChangeSpec := { name := "numDoubles", fn := fun _ => fun
  | [d1, d2] => { results := [.lit (.bool true)], args := [d1, d2] }
  | _ => none }
def numDoublesRow : OpenClaim := { program := "ytpbcplgpbafjpab", sum := "9ea467483e001b9055c8395486280505c0d2eaf364460ad9dfe66957297d5a14", func := "casket/casketlaw3.NumDoubles", spec := "numDoubles", inPlace := ["math.Float64bits", "math.Float64frombits"], apart := false }
def NumDoublesSaid : Prop := numDoublesRow.holds Try.pinned (OpenSpec.ofChange numDoublesSpec)

/-- ITS FALSE NEIGHBOUR: 'it returns false'. Refute it at one input. -/
def numDoublesWrong : ChangeSpec := { name := "numDoubles", fn := fun _ => fun
  | [d1, d2] => { results := [.lit (.bool false)], args := [d1, d2] }
  | _ => none }
def NumDoublesWrongFalsely : Prop := numDoublesRow.holds Try.pinned (OpenSpec.ofChange numDoublesWrong)

/-- 'casketlaw3.NumSpreads': WHATEVER THE INPUT: true; the input reads as it did. -/
def numSpreadsSpec : ChangeSpec := { name := "numSpreads", fn := fun _ => fun
  | [d1, d2, d3] => { results := [.lit (.bool true)], args := [d1, d2, d3] }
  | _ => none }
def numSpreadsRow : OpenClaim := { program := "ytpbcplgpbafjpab", sum := "9ea467483e001b9055c8395486280505c0d2eaf364460ad9dfe66957297d5a14", func := "casket/casketlaw3.NumSpreads", spec := "numSpreads", inPlace := ["math.Float64bits", "math.Float64frombits"], apart := false }
def NumSpreadsSaid : Prop := numSpreadsRow.holds Try.pinned (OpenSpec.ofChange numSpreadsSpec)

/-- ITS FALSE NEIGHBOUR: 'it returns false'. Refute it at one input. -/
def numSpreadsWrong : ChangeSpec := { name := "numSpreads", fn := fun _ => fun
  | [d1, d2, d3] => { results := [.lit (.bool false)], args := [d1, d2, d3] }
  | _ => none }
def NumSpreadsWrongFalsely : Prop := numSpreadsRow.holds Try.pinned (OpenSpec.ofChange numSpreadsWrong)

/-- 'casketlaw3.NumDown': WHATEVER THE INPUT: true; the input reads as it did. -/
def numDownSpec : ChangeSpec := { name := "numDown", fn := fun _ => fun
  | [d1, d2] => { results := [.lit (.bool true)], args := [d1, d2] }
  | _ => none }
def numDownRow : OpenClaim := { program := "ytpbcplgpbafjpab", sum := "9ea467483e001b9055c8395486280505c0d2eaf364460ad9dfe66957297d5a14", func := "casket/casketlaw3.NumDown", spec := "numDown", inPlace := ["math.Float64bits", "math.Float64frombits", "math.archFloor", "math.archTrunc"], apart := false }
def NumDownSaid : Prop := numDownRow.holds Try.pinned (OpenSpec.ofChange numDownSpec)

/-- ITS FALSE NEIGHBOUR: 'it returns false'. Refute it at one input. -/
def numDownWrong : ChangeSpec := { name := "numDown", fn := fun _ => fun
  | [d1, d2] => { results := [.lit (.bool false)], args := [d1, d2] }
  | _ => none }
def NumDownWrongFalsely : Prop := numDownRow.holds Try.pinned (OpenSpec.ofChange numDownWrong)

/- THE SECOND FORM. 'bulk': how many values and letters a reading holds, each counted each time it is reached (what is shared counts as often as it is met; a slice's spare places count too). A statement '..UptoSaid' is the law's where the arguments, and the package variables that the reading takes, are together of bulk at most 1048576: NARROWER than '..Said'. Prove '..Said' where nothing that the law and all that it calls make is longer than what came in: it says more and counts as full. Else prove '..UptoSaid'. A law counts once. -/
mutual
def uptoBulk {H : Type} : DataW H → Nat
  | .lit (.string bytes) => bytes.length + 1
  | .lit _ => 1
  | .nil => 1
  | .ptr d => uptoBulk d + 1
  | .slice elems spare => uptoBulkAll elems + uptoBulkAll spare + 1
  | .agg parts => uptoBulkAll parts + 1
  | .iface _ d => uptoBulk d + 1
  | .map entries => uptoBulkEntries entries + 1
  | .held _ => 1
def uptoBulkAll {H : Type} : List (DataW H) → Nat
  | [] => 0
  | d :: r => uptoBulk d + uptoBulkAll r
def uptoBulkEntries {H : Type} : List (Lit × DataW H) → Nat
  | [] => 0
  | x :: r => uptoBulkEntry x + uptoBulkEntries r
def uptoBulkEntry {H : Type} : Lit × DataW H → Nat
  | (.string bytes, d) => bytes.length + uptoBulk d + 1
  | (_, d) => uptoBulk d + 1
 end
def uptoSmall : (H : Type) → List (DataW H) → Bool := fun _ ds => decide (uptoBulkAll ds ≤ 1048576)
def OpenSpec.upto (s : _root_.Go.ChangeSpec) : _root_.Go.OpenSpec := { _root_.Go.OpenSpec.ofChange s with cond := some uptoSmall }

/-- 'casketlaw3.NumRing', WHERE WHAT IT READS IS OF BULK AT MOST 1048576: true; the input reads as it did. -/
def numRingUptoRow : OpenClaim := { program := "ytpbcplgpbafjpab", sum := "9ea467483e001b9055c8395486280505c0d2eaf364460ad9dfe66957297d5a14", func := "casket/casketlaw3.NumRing", spec := "numRing", inPlace := ["math.Float64bits", "math.Float64frombits"], apart := false, narrowed := true }
def NumRingUptoSaid : Prop := numRingUptoRow.holds Try.pinned (OpenSpec.upto numRingSpec)

/-- 'casketlaw3.NumWhere', WHERE WHAT IT READS IS OF BULK AT MOST 1048576: true; the input reads as it did. -/
def numWhereUptoRow : OpenClaim := { program := "ytpbcplgpbafjpab", sum := "9ea467483e001b9055c8395486280505c0d2eaf364460ad9dfe66957297d5a14", func := "casket/casketlaw3.NumWhere", spec := "numWhere", inPlace := ["math.Float64bits", "math.Float64frombits"], apart := false, narrowed := true }
def NumWhereUptoSaid : Prop := numWhereUptoRow.holds Try.pinned (OpenSpec.upto numWhereSpec)

/-- 'casketlaw3.NumMixes', WHERE WHAT IT READS IS OF BULK AT MOST 1048576: true; the input reads as it did. -/
def numMixesUptoRow : OpenClaim := { program := "ytpbcplgpbafjpab", sum := "9ea467483e001b9055c8395486280505c0d2eaf364460ad9dfe66957297d5a14", func := "casket/casketlaw3.NumMixes", spec := "numMixes", inPlace := ["math.Float64bits", "math.Float64frombits", "math.archFloor", "math.archTrunc"], apart := false, narrowed := true }
def NumMixesUptoSaid : Prop := numMixesUptoRow.holds Try.pinned (OpenSpec.upto numMixesSpec)

/-- 'casketlaw3.NumDoubles', WHERE WHAT IT READS IS OF BULK AT MOST 1048576: true; the input reads as it did. -/
def numDoublesUptoRow : OpenClaim := { program := "ytpbcplgpbafjpab", sum := "9ea467483e001b9055c8395486280505c0d2eaf364460ad9dfe66957297d5a14", func := "casket/casketlaw3.NumDoubles", spec := "numDoubles", inPlace := ["math.Float64bits", "math.Float64frombits"], apart := false, narrowed := true }
def NumDoublesUptoSaid : Prop := numDoublesUptoRow.holds Try.pinned (OpenSpec.upto numDoublesSpec)

/-- 'casketlaw3.NumSpreads', WHERE WHAT IT READS IS OF BULK AT MOST 1048576: true; the input reads as it did. -/
def numSpreadsUptoRow : OpenClaim := { program := "ytpbcplgpbafjpab", sum := "9ea467483e001b9055c8395486280505c0d2eaf364460ad9dfe66957297d5a14", func := "casket/casketlaw3.NumSpreads", spec := "numSpreads", inPlace := ["math.Float64bits", "math.Float64frombits"], apart := false, narrowed := true }
def NumSpreadsUptoSaid : Prop := numSpreadsUptoRow.holds Try.pinned (OpenSpec.upto numSpreadsSpec)

/-- 'casketlaw3.NumDown', WHERE WHAT IT READS IS OF BULK AT MOST 1048576: true; the input reads as it did. -/
def numDownUptoRow : OpenClaim := { program := "ytpbcplgpbafjpab", sum := "9ea467483e001b9055c8395486280505c0d2eaf364460ad9dfe66957297d5a14", func := "casket/casketlaw3.NumDown", spec := "numDown", inPlace := ["math.Float64bits", "math.Float64frombits", "math.archFloor", "math.archTrunc"], apart := false, narrowed := true }
def NumDownUptoSaid : Prop := numDownUptoRow.holds Try.pinned (OpenSpec.upto numDownSpec)

end Rows
end Go.Proofs.Ytpbcplgpbafjpab
