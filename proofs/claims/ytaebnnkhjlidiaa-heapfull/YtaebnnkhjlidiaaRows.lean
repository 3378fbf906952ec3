/-
  No cell of these rows narrows 'for every input' (looked for: loops, veiled, ifaces, maps, wideKeys, modest, calm, conditions, laid).
  DERIVED. THE GIVEN ROWS OF THIS SEAT. 6 by the template 'for every input the law returns true; each argument reads behind the call as it read before'; 0 by the template 'total and deterministic' (their statements: YtaebnnkhjlidiaaTotals.lean).
  GIVEN WITH THE SEED: the statements are not yours to turn. If you find one false, say at which input.
  Laid BY PROGRAM, IN A SANDBOX (cutbox-rows.mjs): the forced cells as the released guide's own fill.sh prints them over the translation 16274b7d194970bb… (all of the seat's roots in one cut). By AI agents, Wed Nov 11 2026. No macro, syntax, notation, axiom, sorry.
-/
import Derived.Test.YtaebnnkhjlidiaaChecked
import GoSem.Claim
import GoSem.ClaimJoined
import GoSem.ClaimMapViews
import Derived.JoinedTies
import Derived.KernelRfl
namespace Go.Proofs.Ytaebnnkhjlidiaa
/- THE CELL 'sum', in the pinned program and in every row, IS THE sha256 OF THE DUMP (.gsa) THAT YtaebnnkhjlidiaaProg.lean LOADS. Nothing in Lean hashes anything: it is a label: what it is worth is what the hold of that sum in a sandbox is worth. -/
noncomputable def Try.pinned : Pinned := { name := "ytaebnnkhjlidiaa", sum := "16274b7d194970bb7d0bff01a471a860ce3a8d6f9b6d181b340d62d2bf56714f", checked := Try.checked }
namespace Rows
def none {H : Type} : Left H := { results := [], args := [] }

/-- 'casketlaw6.HeapNeeds': WHATEVER THE INPUT: true; the input reads as it did. -/
def heapNeedsSpec : ChangeSpec := { name := "heapNeeds", fn := fun _ => fun
  | [d] => { results := [.lit (.bool true)], args := [d] }
  | _ => none }
def heapNeedsRow : OpenClaim := { program := "ytaebnnkhjlidiaa", sum := "16274b7d194970bb7d0bff01a471a860ce3a8d6f9b6d181b340d62d2bf56714f", func := "casket/casketlaw6.HeapNeeds", spec := "heapNeeds", unfollowed := true, recurses := true, apart := false }
def HeapNeedsSaid : Prop := heapNeedsRow.holds Try.pinned (OpenSpec.ofChange heapNeedsSpec)

/-- ITS FALSE NEIGHBOUR: 'it returns false'. Refute it at one input. -/
def heapNeedsWrong : ChangeSpec := { name := "heapNeeds", fn := fun _ => fun
  | [d] => { results := [.lit (.bool false)], args := [d] }
  | _ => none }
def HeapNeedsWrongFalsely : Prop := heapNeedsRow.holds Try.pinned (OpenSpec.ofChange heapNeedsWrong)

/-- 'casketlaw6.HeapFull': WHATEVER THE INPUT: true; the input reads as it did. -/
def heapFullSpec : ChangeSpec := { name := "heapFull", fn := fun _ => fun
  | [d1, d2, d3] => { results := [.lit (.bool true)], args := [d1, d2, d3] }
  | _ => none }
def heapFullRow : OpenClaim := { program := "ytaebnnkhjlidiaa", sum := "16274b7d194970bb7d0bff01a471a860ce3a8d6f9b6d181b340d62d2bf56714f", func := "casket/casketlaw6.HeapFull", spec := "heapFull", unfollowed := true, recurses := true, apart := false }
def HeapFullSaid : Prop := heapFullRow.holds Try.pinned (OpenSpec.ofChange heapFullSpec)

/-- ITS FALSE NEIGHBOUR: 'it returns false'. Refute it at one input. -/
def heapFullWrong : ChangeSpec := { name := "heapFull", fn := fun _ => fun
  | [d1, d2, d3] => { results := [.lit (.bool false)], args := [d1, d2, d3] }
  | _ => none }
def HeapFullWrongFalsely : Prop := heapFullRow.holds Try.pinned (OpenSpec.ofChange heapFullWrong)

/-- 'casketlaw6.HeapCircles': WHATEVER THE INPUT: true; the input reads as it did. -/
def heapCirclesSpec : ChangeSpec := { name := "heapCircles", fn := fun _ => fun
  | [d1, d2] => { results := [.lit (.bool true)], args := [d1, d2] }
  | _ => none }
def heapCirclesRow : OpenClaim := { program := "ytaebnnkhjlidiaa", sum := "16274b7d194970bb7d0bff01a471a860ce3a8d6f9b6d181b340d62d2bf56714f", func := "casket/casketlaw6.HeapCircles", spec := "heapCircles", unfollowed := true, recurses := true, apart := false }
def HeapCirclesSaid : Prop := heapCirclesRow.holds Try.pinned (OpenSpec.ofChange heapCirclesSpec)

/-- ITS FALSE NEIGHBOUR: 'it returns false'. Refute it at one input. -/
def heapCirclesWrong : ChangeSpec := { name := "heapCircles", fn := fun _ => fun
  | [d1, d2] => { results := [.lit (.bool false)], args := [d1, d2] }
  | _ => none }
def HeapCirclesWrongFalsely : Prop := heapCirclesRow.holds Try.pinned (OpenSpec.ofChange heapCirclesWrong)

/-- 'casketlaw6.HeapViews': WHATEVER THE INPUT: true; the input reads as it did. -/
def heapViewsSpec : ChangeSpec := { name := "heapViews", fn := fun _ => fun
  | [d1, d2, d3, d4, d5] => { results := [.lit (.bool true)], args := [d1, d2, d3, d4, d5] }
  | _ => none }
def heapViewsRow : OpenClaim := { program := "ytaebnnkhjlidiaa", sum := "16274b7d194970bb7d0bff01a471a860ce3a8d6f9b6d181b340d62d2bf56714f", func := "casket/casketlaw6.HeapViews", spec := "heapViews", unfollowed := true, recurses := true, apart := false }
def HeapViewsSaid : Prop := heapViewsRow.holds Try.pinned (OpenSpec.ofChange heapViewsSpec)

/-- ITS FALSE NEIGHBOUR: 'it returns false'. Refute it at one input. -/
def heapViewsWrong : ChangeSpec := { name := "heapViews", fn := fun _ => fun
  | [d1, d2, d3, d4, d5] => { results := [.lit (.bool false)], args := [d1, d2, d3, d4, d5] }
  | _ => none }
def HeapViewsWrongFalsely : Prop := heapViewsRow.holds Try.pinned (OpenSpec.ofChange heapViewsWrong)

/-- 'casketlaw6.HeapDeep': WHATEVER THE INPUT: true; the input reads as it did. -/
def heapDeepSpec : ChangeSpec := { name := "heapDeep", fn := fun _ => fun
  | [d] => { results := [.lit (.bool true)], args := [d] }
  | _ => none }
def heapDeepRow : OpenClaim := { program := "ytaebnnkhjlidiaa", sum := "16274b7d194970bb7d0bff01a471a860ce3a8d6f9b6d181b340d62d2bf56714f", func := "casket/casketlaw6.HeapDeep", spec := "heapDeep", unfollowed := true, recurses := true, apart := false }
def HeapDeepSaid : Prop := heapDeepRow.holds Try.pinned (OpenSpec.ofChange heapDeepSpec)

/-- ITS FALSE NEIGHBOUR: 'it returns false'. Refute it at one input. -/
def heapDeepWrong : ChangeSpec := { name := "heapDeep", fn := fun _ => fun
  | [d] => { results := [.lit (.bool false)], args := [d] }
  | _ => none }
def HeapDeepWrongFalsely : Prop := heapDeepRow.holds Try.pinned (OpenSpec.ofChange heapDeepWrong)

/-- 'casketlaw6.HeapCopies': WHATEVER THE INPUT: true; the input reads as it did. -/
def heapCopiesSpec : ChangeSpec := { name := "heapCopies", fn := fun _ => fun
  | [d1, d2, d3] => { results := [.lit (.bool true)], args := [d1, d2, d3] }
  | _ => none }
def heapCopiesRow : OpenClaim := { program := "ytaebnnkhjlidiaa", sum := "16274b7d194970bb7d0bff01a471a860ce3a8d6f9b6d181b340d62d2bf56714f", func := "casket/casketlaw6.HeapCopies", spec := "heapCopies", unfollowed := true, recurses := true, apart := false }
def HeapCopiesSaid : Prop := heapCopiesRow.holds Try.pinned (OpenSpec.ofChange heapCopiesSpec)

/-- ITS FALSE NEIGHBOUR: 'it returns false'. Refute it at one input. -/
def heapCopiesWrong : ChangeSpec := { name := "heapCopies", fn := fun _ => fun
  | [d1, d2, d3] => { results := [.lit (.bool false)], args := [d1, d2, d3] }
  | _ => none }
def HeapCopiesWrongFalsely : Prop := heapCopiesRow.holds Try.pinned (OpenSpec.ofChange heapCopiesWrong)

/- THE SECOND FORM. 'bulk': how many values and letters a reading holds, each counted each time it is reached (what is shared counts as often as it is met; a slice's spare places count too). A statement '..UptoSaid' is the law's where the arguments, and the package variables that the reading takes, are together of bulk at most 1048576: NARROWER than '..Said'. Prove '..Said' where nothing that the law and all that it calls make is longer than what came in: it says more and counts as full. Else prove '..UptoSaid'. A law counts once. -/
mutual
def uptoBulk {H : Type} : DataW H → Nat
  | .lit (.string bytes) => bytes.length + 1
  | .lit _ => 1
  | .nil => 1
  | .ptr d => uptoBulk d + 1
  | .slice elems spare => uptoBulkAll elems + uptoBulkAll spare + 1
  | .agg parts => uptoBulkAll parts + 1
  | .iface _ d => uptoBulk d + 1
  | .map entries => uptoBulkEntries entries + 1
  | .held _ => 1
def uptoBulkAll {H : Type} : List (DataW H) → Nat
  | [] => 0
  | d :: r => uptoBulk d + uptoBulkAll r
def uptoBulkEntries {H : Type} : List (Lit × DataW H) → Nat
  | [] => 0
  | x :: r => uptoBulkEntry x + uptoBulkEntries r
def uptoBulkEntry {H : Type} : Lit × DataW H → Nat
  | (.string bytes, d) => bytes.length + uptoBulk d + 1
  | (_, d) => uptoBulk d + 1
 end
def uptoSmall : (H : Type) → List (DataW H) → Bool := fun _ ds => decide (uptoBulkAll ds ≤ 1048576)
def OpenSpec.upto (s : _root_.Go.ChangeSpec) : _root_.Go.OpenSpec := { _root_.Go.OpenSpec.ofChange s with cond := some uptoSmall }

/-- 'casketlaw6.HeapNeeds', WHERE WHAT IT READS IS OF BULK AT MOST 1048576: true; the input reads as it did. -/
def heapNeedsUptoRow : OpenClaim := { program := "ytaebnnkhjlidiaa", sum := "16274b7d194970bb7d0bff01a471a860ce3a8d6f9b6d181b340d62d2bf56714f", func := "casket/casketlaw6.HeapNeeds", spec := "heapNeeds", unfollowed := true, recurses := true, apart := false, narrowed := true }
def HeapNeedsUptoSaid : Prop := heapNeedsUptoRow.holds Try.pinned (OpenSpec.upto heapNeedsSpec)

/-- 'casketlaw6.HeapFull', WHERE WHAT IT READS IS OF BULK AT MOST 1048576: true; the input reads as it did. -/
def heapFullUptoRow : OpenClaim := { program := "ytaebnnkhjlidiaa", sum := "16274b7d194970bb7d0bff01a471a860ce3a8d6f9b6d181b340d62d2bf56714f", func := "casket/casketlaw6.HeapFull", spec := "heapFull", unfollowed := true, recurses := true, apart := false, narrowed := true }
def HeapFullUptoSaid : Prop := heapFullUptoRow.holds Try.pinned (OpenSpec.upto heapFullSpec)

/-- 'casketlaw6.HeapCircles', WHERE WHAT IT READS IS OF BULK AT MOST 1048576: true; the input reads as it did. -/
def heapCirclesUptoRow : OpenClaim := { program := "ytaebnnkhjlidiaa", sum := "16274b7d194970bb7d0bff01a471a860ce3a8d6f9b6d181b340d62d2bf56714f", func := "casket/casketlaw6.HeapCircles", spec := "heapCircles", unfollowed := true, recurses := true, apart := false, narrowed := true }
def HeapCirclesUptoSaid : Prop := heapCirclesUptoRow.holds Try.pinned (OpenSpec.upto heapCirclesSpec)

/-- 'casketlaw6.HeapViews', WHERE WHAT IT READS IS OF BULK AT MOST 1048576: true; the input reads as it did. -/
def heapViewsUptoRow : OpenClaim := { program := "ytaebnnkhjlidiaa", sum := "16274b7d194970bb7d0bff01a471a860ce3a8d6f9b6d181b340d62d2bf56714f", func := "casket/casketlaw6.HeapViews", spec := "heapViews", unfollowed := true, recurses := true, apart := false, narrowed := true }
def HeapViewsUptoSaid : Prop := heapViewsUptoRow.holds Try.pinned (OpenSpec.upto heapViewsSpec)

/-- 'casketlaw6.HeapDeep', WHERE WHAT IT READS IS OF BULK AT MOST 1048576: true; the input reads as it did. -/
def heapDeepUptoRow : OpenClaim := { program := "ytaebnnkhjlidiaa", sum := "16274b7d194970bb7d0bff01a471a860ce3a8d6f9b6d181b340d62d2bf56714f", func := "casket/casketlaw6.HeapDeep", spec := "heapDeep", unfollowed := true, recurses := true, apart := false, narrowed := true }
def HeapDeepUptoSaid : Prop := heapDeepUptoRow.holds Try.pinned (OpenSpec.upto heapDeepSpec)

/-- 'casketlaw6.HeapCopies', WHERE WHAT IT READS IS OF BULK AT MOST 1048576: true; the input reads as it did. -/
def heapCopiesUptoRow : OpenClaim := { program := "ytaebnnkhjlidiaa", sum := "16274b7d194970bb7d0bff01a471a860ce3a8d6f9b6d181b340d62d2bf56714f", func := "casket/casketlaw6.HeapCopies", spec := "heapCopies", unfollowed := true, recurses := true, apart := false, narrowed := true }
def HeapCopiesUptoSaid : Prop := heapCopiesUptoRow.holds Try.pinned (OpenSpec.upto heapCopiesSpec)

end Rows
end Go.Proofs.Ytaebnnkhjlidiaa
