/-
  No cell of these rows narrows 'for every input' (looked for: loops, veiled, ifaces, maps, wideKeys, modest, calm, conditions, laid).
  DERIVED. THE GIVEN ROWS OF THIS SEAT. 6 by the template 'for every input the law returns true; each argument reads behind the call as it read before'; 0 by the template 'total and deterministic' (their statements: YtignkihhhflelaaTotals.lean).
  GIVEN WITH THE SEED: the statements are not yours to turn. If you find one false, say at which input.
  Laid BY PROGRAM, IN A SANDBOX (cutbox-rows.mjs): the forced cells as the released guide's own fill.sh prints them over the translation 7a862a853db408c9… (all of the seat's roots in one cut). By AI agents, Wed Nov 11 2026. No macro, syntax, notation, axiom, sorry.
-/
import Derived.Test.YtignkihhhflelaaChecked
import GoSem.Claim
import GoSem.ClaimJoined
import GoSem.ClaimMapViews
import Derived.JoinedTies
import Derived.KernelRfl
namespace Go.Proofs.Ytignkihhhflelaa
/- THE CELL 'sum', in the pinned program and in every row, IS THE sha256 OF THE DUMP (.gsa) THAT YtignkihhhflelaaProg.lean LOADS. Nothing in Lean hashes anything: it is a label: what it is worth is what the hold of that sum in a sandbox is worth. -/
noncomputable def Try.pinned : Pinned := { name := "ytignkihhhflelaa", sum := "7a862a853db408c99c1a39a202d6a6b3f4f180cf46d77b15d5d32c82402c82b3", checked := Try.checked }
namespace Rows
def none {H : Type} : Left H := { results := [], args := [] }

/-- 'casketlaw2.SoftReckons': WHATEVER THE INPUT: true; the input reads as it did. -/
def softReckonsSpec : ChangeSpec := { name := "softReckons", fn := fun _ => fun
  | [d1, d2] => { results := [.lit (.bool true)], args := [d1, d2] }
  | _ => none }
def softReckonsRow : OpenClaim := { program := "ytignkihhhflelaa", sum := "7a862a853db408c99c1a39a202d6a6b3f4f180cf46d77b15d5d32c82402c82b3", func := "casket/casketlaw2.SoftReckons", spec := "softReckons", inPlace := ["math.Float64frombits", "math.Float64bits", "math.archFloor", "math.archTrunc"], apart := false }
def SoftReckonsSaid : Prop := softReckonsRow.holds Try.pinned (OpenSpec.ofChange softReckonsSpec)

/-- ITS FALSE NEIGHBOUR: 'it returns false'. Refute it at one input. -/
def softReckonsWrong : ChangeSpec := { name := "softReckons", fn := fun _ => fun
  | [d1, d2] => { results := [.lit (.bool false)], args := [d1, d2] }
  | _ => none }
def SoftReckonsWrongFalsely : Prop := softReckonsRow.holds Try.pinned (OpenSpec.ofChange softReckonsWrong)

/-- 'casketlaw2.SoftConverts': WHATEVER THE INPUT: true; the input reads as it did. -/
def softConvertsSpec : ChangeSpec := { name := "softConverts", fn := fun _ => fun
  | [d1, d2, d3] => { results := [.lit (.bool true)], args := [d1, d2, d3] }
  | _ => none }
def softConvertsRow : OpenClaim := { program := "ytignkihhhflelaa", sum := "7a862a853db408c99c1a39a202d6a6b3f4f180cf46d77b15d5d32c82402c82b3", func := "casket/casketlaw2.SoftConverts", spec := "softConverts", inPlace := ["math.Float64frombits", "math.Float64bits", "math.Float32bits", "math.Float32frombits"], apart := false }
def SoftConvertsSaid : Prop := softConvertsRow.holds Try.pinned (OpenSpec.ofChange softConvertsSpec)

/-- ITS FALSE NEIGHBOUR: 'it returns false'. Refute it at one input. -/
def softConvertsWrong : ChangeSpec := { name := "softConverts", fn := fun _ => fun
  | [d1, d2, d3] => { results := [.lit (.bool false)], args := [d1, d2, d3] }
  | _ => none }
def SoftConvertsWrongFalsely : Prop := softConvertsRow.holds Try.pinned (OpenSpec.ofChange softConvertsWrong)

/-- 'casketlaw2.SoftOrders': WHATEVER THE INPUT: true; the input reads as it did. -/
def softOrdersSpec : ChangeSpec := { name := "softOrders", fn := fun _ => fun
  | [d1, d2] => { results := [.lit (.bool true)], args := [d1, d2] }
  | _ => none }
def softOrdersRow : OpenClaim := { program := "ytignkihhhflelaa", sum := "7a862a853db408c99c1a39a202d6a6b3f4f180cf46d77b15d5d32c82402c82b3", func := "casket/casketlaw2.SoftOrders", spec := "softOrders", inPlace := ["math.Float64frombits", "math.Float64bits"], apart := false }
def SoftOrdersSaid : Prop := softOrdersRow.holds Try.pinned (OpenSpec.ofChange softOrdersSpec)

/-- ITS FALSE NEIGHBOUR: 'it returns false'. Refute it at one input. -/
def softOrdersWrong : ChangeSpec := { name := "softOrders", fn := fun _ => fun
  | [d1, d2] => { results := [.lit (.bool false)], args := [d1, d2] }
  | _ => none }
def SoftOrdersWrongFalsely : Prop := softOrdersRow.holds Try.pinned (OpenSpec.ofChange softOrdersWrong)

/-- 'casketlaw2.SoftCanon': WHATEVER THE INPUT: true; the input reads as it did. -/
def softCanonSpec : ChangeSpec := { name := "softCanon", fn := fun _ => fun
  | [d1, d2, d3, d4] => { results := [.lit (.bool true)], args := [d1, d2, d3, d4] }
  | _ => none }
def softCanonRow : OpenClaim := { program := "ytignkihhhflelaa", sum := "7a862a853db408c99c1a39a202d6a6b3f4f180cf46d77b15d5d32c82402c82b3", func := "casket/casketlaw2.SoftCanon", spec := "softCanon", inPlace := ["math.Float64frombits", "math.Float64bits", "math.archFloor", "math.archTrunc", "math.Float32frombits"], apart := false }
def SoftCanonSaid : Prop := softCanonRow.holds Try.pinned (OpenSpec.ofChange softCanonSpec)

/-- ITS FALSE NEIGHBOUR: 'it returns false'. Refute it at one input. -/
def softCanonWrong : ChangeSpec := { name := "softCanon", fn := fun _ => fun
  | [d1, d2, d3, d4] => { results := [.lit (.bool false)], args := [d1, d2, d3, d4] }
  | _ => none }
def SoftCanonWrongFalsely : Prop := softCanonRow.holds Try.pinned (OpenSpec.ofChange softCanonWrong)

/-- 'casketlaw2.SoftBack': WHATEVER THE INPUT: true; the input reads as it did. -/
def softBackSpec : ChangeSpec := { name := "softBack", fn := fun _ => fun
  | [d1, d2, d3, d4] => { results := [.lit (.bool true)], args := [d1, d2, d3, d4] }
  | _ => none }
def softBackRow : OpenClaim := { program := "ytignkihhhflelaa", sum := "7a862a853db408c99c1a39a202d6a6b3f4f180cf46d77b15d5d32c82402c82b3", func := "casket/casketlaw2.SoftBack", spec := "softBack", inPlace := ["math.Float32frombits", "math.Float64bits", "math.Float64frombits", "math.Float32bits", "math.archFloor", "math.archTrunc"], apart := false }
def SoftBackSaid : Prop := softBackRow.holds Try.pinned (OpenSpec.ofChange softBackSpec)

/-- ITS FALSE NEIGHBOUR: 'it returns false'. Refute it at one input. -/
def softBackWrong : ChangeSpec := { name := "softBack", fn := fun _ => fun
  | [d1, d2, d3, d4] => { results := [.lit (.bool false)], args := [d1, d2, d3, d4] }
  | _ => none }
def SoftBackWrongFalsely : Prop := softBackRow.holds Try.pinned (OpenSpec.ofChange softBackWrong)

/-- 'casketlaw2.SoftWhole': WHATEVER THE INPUT: true; the input reads as it did. -/
def softWholeSpec : ChangeSpec := { name := "softWhole", fn := fun _ => fun
  | [d1, d2] => { results := [.lit (.bool true)], args := [d1, d2] }
  | _ => none }
def softWholeRow : OpenClaim := { program := "ytignkihhhflelaa", sum := "7a862a853db408c99c1a39a202d6a6b3f4f180cf46d77b15d5d32c82402c82b3", func := "casket/casketlaw2.SoftWhole", spec := "softWhole", inPlace := ["math.Float64bits", "math.Float64frombits", "math.archFloor", "math.archTrunc"], apart := false }
def SoftWholeSaid : Prop := softWholeRow.holds Try.pinned (OpenSpec.ofChange softWholeSpec)

/-- ITS FALSE NEIGHBOUR: 'it returns false'. Refute it at one input. -/
def softWholeWrong : ChangeSpec := { name := "softWhole", fn := fun _ => fun
  | [d1, d2] => { results := [.lit (.bool false)], args := [d1, d2] }
  | _ => none }
def SoftWholeWrongFalsely : Prop := softWholeRow.holds Try.pinned (OpenSpec.ofChange softWholeWrong)

/- THE SECOND FORM. 'bulk': how many values and letters a reading holds, each counted each time it is reached (what is shared counts as often as it is met; a slice's spare places count too). A statement '..UptoSaid' is the law's where the arguments, and the package variables that the reading takes, are together of bulk at most 1048576: NARROWER than '..Said'. Prove '..Said' where nothing that the law and all that it calls make is longer than what came in: it says more and counts as full. Else prove '..UptoSaid'. A law counts once. -/
mutual
def uptoBulk {H : Type} : DataW H → Nat
  | .lit (.string bytes) => bytes.length + 1
  | .lit _ => 1
  | .nil => 1
  | .ptr d => uptoBulk d + 1
  | .slice elems spare => uptoBulkAll elems + uptoBulkAll spare + 1
  | .agg parts => uptoBulkAll parts + 1
  | .iface _ d => uptoBulk d + 1
  | .map entries => uptoBulkEntries entries + 1
  | .held _ => 1
def uptoBulkAll {H : Type} : List (DataW H) → Nat
  | [] => 0
  | d :: r => uptoBulk d + uptoBulkAll r
def uptoBulkEntries {H : Type} : List (Lit × DataW H) → Nat
  | [] => 0
  | x :: r => uptoBulkEntry x + uptoBulkEntries r
def uptoBulkEntry {H : Type} : Lit × DataW H → Nat
  | (.string bytes, d) => bytes.length + uptoBulk d + 1
  | (_, d) => uptoBulk d + 1
 end
def uptoSmall : (H : Type) → List (DataW H) → Bool := fun _ ds => decide (uptoBulkAll ds ≤ 1048576)
def OpenSpec.upto (s : _root_.Go.ChangeSpec) : _root_.Go.OpenSpec := { _root_.Go.OpenSpec.ofChange s with cond := some uptoSmall }

/-- 'casketlaw2.SoftReckons', WHERE WHAT IT READS IS OF BULK AT MOST 1048576: true; the input reads as it did. -/
def softReckonsUptoRow : OpenClaim := { program := "ytignkihhhflelaa", sum := "7a862a853db408c99c1a39a202d6a6b3f4f180cf46d77b15d5d32c82402c82b3", func := "casket/casketlaw2.SoftReckons", spec := "softReckons", inPlace := ["math.Float64frombits", "math.Float64bits", "math.archFloor", "math.archTrunc"], apart := false, narrowed := true }
def SoftReckonsUptoSaid : Prop := softReckonsUptoRow.holds Try.pinned (OpenSpec.upto softReckonsSpec)

/-- 'casketlaw2.SoftConverts', WHERE WHAT IT READS IS OF BULK AT MOST 1048576: true; the input reads as it did. -/
def softConvertsUptoRow : OpenClaim := { program := "ytignkihhhflelaa", sum := "7a862a853db408c99c1a39a202d6a6b3f4f180cf46d77b15d5d32c82402c82b3", func := "casket/casketlaw2.SoftConverts", spec := "softConverts", inPlace := ["math.Float64frombits", "math.Float64bits", "math.Float32bits", "math.Float32frombits"], apart := false, narrowed := true }
def SoftConvertsUptoSaid : Prop := softConvertsUptoRow.holds Try.pinned (OpenSpec.upto softConvertsSpec)

/-- 'casketlaw2.SoftOrders', WHERE WHAT IT READS IS OF BULK AT MOST 1048576: true; the input reads as it did. -/
def softOrdersUptoRow : OpenClaim := { program := "ytignkihhhflelaa", sum := "7a862a853db408c99c1a39a202d6a6b3f4f180cf46d77b15d5d32c82402c82b3", func := "casket/casketlaw2.SoftOrders", spec := "softOrders", inPlace := ["math.Float64frombits", "math.Float64bits"], apart := false, narrowed := true }
def SoftOrdersUptoSaid : Prop := softOrdersUptoRow.holds Try.pinned (OpenSpec.upto softOrdersSpec)

/-- 'casketlaw2.SoftCanon', WHERE WHAT IT READS IS OF BULK AT MOST 1048576: true; the input reads as it did. -/
def softCanonUptoRow : OpenClaim := { program := "ytignkihhhflelaa", sum := "7a862a853db408c99c1a39a202d6a6b3f4f180cf46d77b15d5d32c82402c82b3", func := "casket/casketlaw2.SoftCanon", spec := "softCanon", inPlace := ["math.Float64frombits", "math.Float64bits", "math.archFloor", "math.archTrunc", "math.Float32frombits"], apart := false, narrowed := true }
def SoftCanonUptoSaid : Prop := softCanonUptoRow.holds Try.pinned (OpenSpec.upto softCanonSpec)

/-- 'casketlaw2.SoftBack', WHERE WHAT IT READS IS OF BULK AT MOST 1048576: true; the input reads as it did. -/
def softBackUptoRow : OpenClaim := { program := "ytignkihhhflelaa", sum := "7a862a853db408c99c1a39a202d6a6b3f4f180cf46d77b15d5d32c82402c82b3", func := "casket/casketlaw2.SoftBack", spec := "softBack", inPlace := ["math.Float32frombits", "math.Float64bits", "math.Float64frombits", "math.Float32bits", "math.archFloor", "math.archTrunc"], apart := false, narrowed := true }
def SoftBackUptoSaid : Prop := softBackUptoRow.holds Try.pinned (OpenSpec.upto softBackSpec)

/-- 'casketlaw2.SoftWhole', WHERE WHAT IT READS IS OF BULK AT MOST 1048576: true; the input reads as it did. -/
def softWholeUptoRow : OpenClaim := { program := "ytignkihhhflelaa", sum := "7a862a853db408c99c1a39a202d6a6b3f4f180cf46d77b15d5d32c82402c82b3", func := "casket/casketlaw2.SoftWhole", spec := "softWhole", inPlace := ["math.Float64bits", "math.Float64frombits", "math.archFloor", "math.archTrunc"], apart := false, narrowed := true }
def SoftWholeUptoSaid : Prop := softWholeUptoRow.holds Try.pinned (OpenSpec.upto softWholeSpec)

end Rows
end Go.Proofs.Ytignkihhhflelaa
