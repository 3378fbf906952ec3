/-
  No cell of these rows narrows 'for every input' (looked for: loops, veiled, ifaces, maps, wideKeys, modest, calm, conditions, laid).
  DERIVED. THE GIVEN ROWS OF THIS SEAT. 4 by the template 'for every input the law returns true; each argument reads behind the call as it read before'; 0 by the template 'total and deterministic' (their statements: YtenpopelbmeemaaGreatTotals.lean).
  GIVEN WITH THE SEED: the statements are not yours to turn. If you find one false, say at which input.
  Laid BY PROGRAM, IN A SANDBOX (cutbox-rows.mjs): the forced cells as the released guide's own fill.sh prints them over the translation b5011fab4cbdeb8e… (all of the seat's roots in one cut). By AI agents, Wed Nov 11 2026. No macro, syntax, notation, axiom, sorry.
-/
import Derived.Test.YtenpopelbmeemaaGreatChecked
import GoSem.Claim
import GoSem.ClaimJoined
import GoSem.ClaimMapViews
import Derived.JoinedTies
import Derived.KernelRfl
namespace Go.Proofs.YtenpopelbmeemaaGreat
/- THE CELL 'sum', in the pinned program and in every row, IS THE sha256 OF THE DUMP (.gsa) THAT YtenpopelbmeemaaGreatProg.lean LOADS. Nothing in Lean hashes anything: it is a label: what it is worth is what the hold of that sum in a sandbox is worth. -/
noncomputable def Tryz.pinned : Pinned := { name := "ytenpopelbmeemaagreat", sum := "b5011fab4cbdeb8edfb5ede2b6e718ea4504aa183b56c4df47d9cf50edafff90", checked := Tryz.checked }
namespace Rows
def none {H : Type} : Left H := { results := [], args := [] }

/-- 'casketlaw9.BufRounds': WHATEVER THE INPUT: true; the input reads as it did. -/
def bufRoundsSpec : ChangeSpec := { name := "bufRounds", fn := fun _ => fun
  | [d1, d2, d3, d4] => { results := [.lit (.bool true)], args := [d1, d2, d3, d4] }
  | _ => none }
def bufRoundsRow : OpenClaim := { program := "ytenpopelbmeemaagreat", sum := "b5011fab4cbdeb8edfb5ede2b6e718ea4504aa183b56c4df47d9cf50edafff90", func := "casket/casketlaw9.BufRounds", spec := "bufRounds", inPlace := ["math.Float64bits", "math.Float32frombits", "math.Float64frombits", "math.Float32bits"], unfollowed := true, recurses := true, apart := false }
def BufRoundsSaid : Prop := bufRoundsRow.holds Tryz.pinned (OpenSpec.ofChange bufRoundsSpec)

/-- ITS FALSE NEIGHBOUR: 'it returns false'. Refute it at one input. -/
def bufRoundsWrong : ChangeSpec := { name := "bufRounds", fn := fun _ => fun
  | [d1, d2, d3, d4] => { results := [.lit (.bool false)], args := [d1, d2, d3, d4] }
  | _ => none }
def BufRoundsWrongFalsely : Prop := bufRoundsRow.holds Tryz.pinned (OpenSpec.ofChange bufRoundsWrong)

/-- 'casketlaw9.BufViews': WHATEVER THE INPUT: true; the input reads as it did. -/
def bufViewsSpec : ChangeSpec := { name := "bufViews", fn := fun _ => fun
  | [d1, d2, d3, d4, d5, d6] => { results := [.lit (.bool true)], args := [d1, d2, d3, d4, d5, d6] }
  | _ => none }
def bufViewsRow : OpenClaim := { program := "ytenpopelbmeemaagreat", sum := "b5011fab4cbdeb8edfb5ede2b6e718ea4504aa183b56c4df47d9cf50edafff90", func := "casket/casketlaw9.BufViews", spec := "bufViews", inPlace := ["math.Float64bits", "math.Float32frombits", "math.Float64frombits", "math.Float32bits"], unfollowed := true, recurses := true, apart := false }
def BufViewsSaid : Prop := bufViewsRow.holds Tryz.pinned (OpenSpec.ofChange bufViewsSpec)

/-- ITS FALSE NEIGHBOUR: 'it returns false'. Refute it at one input. -/
def bufViewsWrong : ChangeSpec := { name := "bufViews", fn := fun _ => fun
  | [d1, d2, d3, d4, d5, d6] => { results := [.lit (.bool false)], args := [d1, d2, d3, d4, d5, d6] }
  | _ => none }
def BufViewsWrongFalsely : Prop := bufViewsRow.holds Tryz.pinned (OpenSpec.ofChange bufViewsWrong)

/-- 'casketlaw9.BufOutside': WHATEVER THE INPUT: true; the input reads as it did. -/
def bufOutsideSpec : ChangeSpec := { name := "bufOutside", fn := fun _ => fun
  | [d1, d2, d3] => { results := [.lit (.bool true)], args := [d1, d2, d3] }
  | _ => none }
def bufOutsideRow : OpenClaim := { program := "ytenpopelbmeemaagreat", sum := "b5011fab4cbdeb8edfb5ede2b6e718ea4504aa183b56c4df47d9cf50edafff90", func := "casket/casketlaw9.BufOutside", spec := "bufOutside", inPlace := ["math.Float64bits", "math.Float32frombits", "math.Float64frombits", "math.Float32bits"], unfollowed := true, recurses := true, apart := false }
def BufOutsideSaid : Prop := bufOutsideRow.holds Tryz.pinned (OpenSpec.ofChange bufOutsideSpec)

/-- ITS FALSE NEIGHBOUR: 'it returns false'. Refute it at one input. -/
def bufOutsideWrong : ChangeSpec := { name := "bufOutside", fn := fun _ => fun
  | [d1, d2, d3] => { results := [.lit (.bool false)], args := [d1, d2, d3] }
  | _ => none }
def BufOutsideWrongFalsely : Prop := bufOutsideRow.holds Tryz.pinned (OpenSpec.ofChange bufOutsideWrong)

/-- 'casketlaw9.BufNeeds': WHATEVER THE INPUT: true; the input reads as it did. -/
def bufNeedsSpec : ChangeSpec := { name := "bufNeeds", fn := fun _ => fun
  | [d1, d2, d3] => { results := [.lit (.bool true)], args := [d1, d2, d3] }
  | _ => none }
def bufNeedsRow : OpenClaim := { program := "ytenpopelbmeemaagreat", sum := "b5011fab4cbdeb8edfb5ede2b6e718ea4504aa183b56c4df47d9cf50edafff90", func := "casket/casketlaw9.BufNeeds", spec := "bufNeeds", inPlace := ["math.Float64bits", "math.Float32frombits", "math.Float64frombits", "math.Float32bits"], unfollowed := true, recurses := true, apart := false }
def BufNeedsSaid : Prop := bufNeedsRow.holds Tryz.pinned (OpenSpec.ofChange bufNeedsSpec)

/-- ITS FALSE NEIGHBOUR: 'it returns false'. Refute it at one input. -/
def bufNeedsWrong : ChangeSpec := { name := "bufNeeds", fn := fun _ => fun
  | [d1, d2, d3] => { results := [.lit (.bool false)], args := [d1, d2, d3] }
  | _ => none }
def BufNeedsWrongFalsely : Prop := bufNeedsRow.holds Tryz.pinned (OpenSpec.ofChange bufNeedsWrong)

/- THE SECOND FORM. 'bulk': how many values and letters a reading holds, each counted each time it is reached (what is shared counts as often as it is met; a slice's spare places count too). A statement '..UptoSaid' is the law's where the arguments, and the package variables that the reading takes, are together of bulk at most 1048576: NARROWER than '..Said'. Prove '..Said' where nothing that the law and all that it calls make is longer than what came in: it says more and counts as full. Else prove '..UptoSaid'. A law counts once. -/
mutual
def uptoBulk {H : Type} : DataW H → Nat
  | .lit (.string bytes) => bytes.length + 1
  | .lit _ => 1
  | .nil => 1
  | .ptr d => uptoBulk d + 1
  | .slice elems spare => uptoBulkAll elems + uptoBulkAll spare + 1
  | .agg parts => uptoBulkAll parts + 1
  | .iface _ d => uptoBulk d + 1
  | .map entries => uptoBulkEntries entries + 1
  | .held _ => 1
def uptoBulkAll {H : Type} : List (DataW H) → Nat
  | [] => 0
  | d :: r => uptoBulk d + uptoBulkAll r
def uptoBulkEntries {H : Type} : List (Lit × DataW H) → Nat
  | [] => 0
  | x :: r => uptoBulkEntry x + uptoBulkEntries r
def uptoBulkEntry {H : Type} : Lit × DataW H → Nat
  | (.string bytes, d) => bytes.length + uptoBulk d + 1
  | (_, d) => uptoBulk d + 1
 end
def uptoSmall : (H : Type) → List (DataW H) → Bool := fun _ ds => decide (uptoBulkAll ds ≤ 1048576)
def OpenSpec.upto (s : _root_.Go.ChangeSpec) : _root_.Go.OpenSpec := { _root_.Go.OpenSpec.ofChange s with cond := some uptoSmall }

/-- 'casketlaw9.BufRounds', WHERE WHAT IT READS IS OF BULK AT MOST 1048576: true; the input reads as it did. -/
def bufRoundsUptoRow : OpenClaim := { program := "ytenpopelbmeemaagreat", sum := "b5011fab4cbdeb8edfb5ede2b6e718ea4504aa183b56c4df47d9cf50edafff90", func := "casket/casketlaw9.BufRounds", spec := "bufRounds", inPlace := ["math.Float64bits", "math.Float32frombits", "math.Float64frombits", "math.Float32bits"], unfollowed := true, recurses := true, apart := false, narrowed := true }
def BufRoundsUptoSaid : Prop := bufRoundsUptoRow.holds Tryz.pinned (OpenSpec.upto bufRoundsSpec)

/-- 'casketlaw9.BufViews', WHERE WHAT IT READS IS OF BULK AT MOST 1048576: true; the input reads as it did. -/
def bufViewsUptoRow : OpenClaim := { program := "ytenpopelbmeemaagreat", sum := "b5011fab4cbdeb8edfb5ede2b6e718ea4504aa183b56c4df47d9cf50edafff90", func := "casket/casketlaw9.BufViews", spec := "bufViews", inPlace := ["math.Float64bits", "math.Float32frombits", "math.Float64frombits", "math.Float32bits"], unfollowed := true, recurses := true, apart := false, narrowed := true }
def BufViewsUptoSaid : Prop := bufViewsUptoRow.holds Tryz.pinned (OpenSpec.upto bufViewsSpec)

/-- 'casketlaw9.BufOutside', WHERE WHAT IT READS IS OF BULK AT MOST 1048576: true; the input reads as it did. -/
def bufOutsideUptoRow : OpenClaim := { program := "ytenpopelbmeemaagreat", sum := "b5011fab4cbdeb8edfb5ede2b6e718ea4504aa183b56c4df47d9cf50edafff90", func := "casket/casketlaw9.BufOutside", spec := "bufOutside", inPlace := ["math.Float64bits", "math.Float32frombits", "math.Float64frombits", "math.Float32bits"], unfollowed := true, recurses := true, apart := false, narrowed := true }
def BufOutsideUptoSaid : Prop := bufOutsideUptoRow.holds Tryz.pinned (OpenSpec.upto bufOutsideSpec)

/-- 'casketlaw9.BufNeeds', WHERE WHAT IT READS IS OF BULK AT MOST 1048576: true; the input reads as it did. -/
def bufNeedsUptoRow : OpenClaim := { program := "ytenpopelbmeemaagreat", sum := "b5011fab4cbdeb8edfb5ede2b6e718ea4504aa183b56c4df47d9cf50edafff90", func := "casket/casketlaw9.BufNeeds", spec := "bufNeeds", inPlace := ["math.Float64bits", "math.Float32frombits", "math.Float64frombits", "math.Float32bits"], unfollowed := true, recurses := true, apart := false, narrowed := true }
def BufNeedsUptoSaid : Prop := bufNeedsUptoRow.holds Tryz.pinned (OpenSpec.upto bufNeedsSpec)

end Rows
end Go.Proofs.YtenpopelbmeemaaGreat
