/-
  No cell of these rows narrows 'for every input' (looked for: loops, veiled, ifaces, maps, wideKeys, modest, calm, conditions, laid).
  DERIVED. THE GIVEN ROWS OF THIS SEAT. 3 by the template 'for every input the law returns true; each argument reads behind the call as it read before'; 0 by the template 'total and deterministic' (their statements: YtalcfblknoojpaaTotals.lean).
  GIVEN WITH THE SEED: the statements are not yours to turn. If you find one false, say at which input.
  Laid BY PROGRAM, IN A SANDBOX (cutbox-rows.mjs): the forced cells as the released guide's own fill.sh prints them over the translation e35e779fd0116807… (all of the seat's roots in one cut). By AI agents, Wed Nov 11 2026. No macro, syntax, notation, axiom, sorry.
-/
import Derived.Test.YtalcfblknoojpaaChecked
import GoSem.Claim
import GoSem.ClaimJoined
import GoSem.ClaimMapViews
import Derived.JoinedTies
import Derived.KernelRfl
namespace Go.Proofs.Ytalcfblknoojpaa
/- THE CELL 'sum', in the pinned program and in every row, IS THE sha256 OF THE DUMP (.gsa) THAT YtalcfblknoojpaaProg.lean LOADS. Nothing in Lean hashes anything: it is a label: what it is worth is what the hold of that sum in a sandbox is worth. -/
noncomputable def Try.pinned : Pinned := { name := "ytalcfblknoojpaa", sum := "e35e779fd01168072b5147647a6a18ebeb3d65b7c176c54ea58c23617f9d3a7d", checked := Try.checked }
namespace Rows
def none {H : Type} : Left H := { results := [], args := [] }

/-- 'casketlaw14.SitePlays': WHATEVER THE INPUT: true; the input reads as it did. -/
def sitePlaysSpec : ChangeSpec := { name := "sitePlays", fn := fun _ => fun
  | [d1, d2] => { results := [.lit (.bool true)], args := [d1, d2] }
  | _ => none }
def sitePlaysRow : OpenClaim := { program := "ytalcfblknoojpaa", sum := "e35e779fd01168072b5147647a6a18ebeb3d65b7c176c54ea58c23617f9d3a7d", func := "casket/casketlaw14.SitePlays", spec := "sitePlays", apart := false }
def SitePlaysSaid : Prop := sitePlaysRow.holds Try.pinned (OpenSpec.ofChange sitePlaysSpec)

/-- ITS FALSE NEIGHBOUR: 'it returns false'. Refute it at one input. -/
def sitePlaysWrong : ChangeSpec := { name := "sitePlays", fn := fun _ => fun
  | [d1, d2] => { results := [.lit (.bool false)], args := [d1, d2] }
  | _ => none }
def SitePlaysWrongFalsely : Prop := sitePlaysRow.holds Try.pinned (OpenSpec.ofChange sitePlaysWrong)

/-- 'casketlaw14.SiteWarms': WHATEVER THE INPUT: true; the input reads as it did. -/
def siteWarmsSpec : ChangeSpec := { name := "siteWarms", fn := fun _ => fun
  | [d1, d2, d3] => { results := [.lit (.bool true)], args := [d1, d2, d3] }
  | _ => none }
def siteWarmsRow : OpenClaim := { program := "ytalcfblknoojpaa", sum := "e35e779fd01168072b5147647a6a18ebeb3d65b7c176c54ea58c23617f9d3a7d", func := "casket/casketlaw14.SiteWarms", spec := "siteWarms", apart := false }
def SiteWarmsSaid : Prop := siteWarmsRow.holds Try.pinned (OpenSpec.ofChange siteWarmsSpec)

/-- ITS FALSE NEIGHBOUR: 'it returns false'. Refute it at one input. -/
def siteWarmsWrong : ChangeSpec := { name := "siteWarms", fn := fun _ => fun
  | [d1, d2, d3] => { results := [.lit (.bool false)], args := [d1, d2, d3] }
  | _ => none }
def SiteWarmsWrongFalsely : Prop := siteWarmsRow.holds Try.pinned (OpenSpec.ofChange siteWarmsWrong)

/-- 'casketlaw14.SiteForced': WHATEVER THE INPUT: true; the input reads as it did. -/
def siteForcedSpec : ChangeSpec := { name := "siteForced", fn := fun _ => fun
  | [d1, d2, d3] => { results := [.lit (.bool true)], args := [d1, d2, d3] }
  | _ => none }
def siteForcedRow : OpenClaim := { program := "ytalcfblknoojpaa", sum := "e35e779fd01168072b5147647a6a18ebeb3d65b7c176c54ea58c23617f9d3a7d", func := "casket/casketlaw14.SiteForced", spec := "siteForced", apart := false }
def SiteForcedSaid : Prop := siteForcedRow.holds Try.pinned (OpenSpec.ofChange siteForcedSpec)

/-- ITS FALSE NEIGHBOUR: 'it returns false'. Refute it at one input. -/
def siteForcedWrong : ChangeSpec := { name := "siteForced", fn := fun _ => fun
  | [d1, d2, d3] => { results := [.lit (.bool false)], args := [d1, d2, d3] }
  | _ => none }
def SiteForcedWrongFalsely : Prop := siteForcedRow.holds Try.pinned (OpenSpec.ofChange siteForcedWrong)

/- THE SECOND FORM. 'bulk': how many values and letters a reading holds, each counted each time it is reached (what is shared counts as often as it is met; a slice's spare places count too). A statement '..UptoSaid' is the law's where the arguments, and the package variables that the reading takes, are together of bulk at most 1048576: NARROWER than '..Said'. Prove '..Said' where nothing that the law and all that it calls make is longer than what came in: it says more and counts as full. Else prove '..UptoSaid'. A law counts once. -/
mutual
def uptoBulk {H : Type} : DataW H → Nat
  | .lit (.string bytes) => bytes.length + 1
  | .lit _ => 1
  | .nil => 1
  | .ptr d => uptoBulk d + 1
  | .slice elems spare => uptoBulkAll elems + uptoBulkAll spare + 1
  | .agg parts => uptoBulkAll parts + 1
  | .iface _ d => uptoBulk d + 1
  | .map entries => uptoBulkEntries entries + 1
  | .held _ => 1
def uptoBulkAll {H : Type} : List (DataW H) → Nat
  | [] => 0
  | d :: r => uptoBulk d + uptoBulkAll r
def uptoBulkEntries {H : Type} : List (Lit × DataW H) → Nat
  | [] => 0
  | x :: r => uptoBulkEntry x + uptoBulkEntries r
def uptoBulkEntry {H : Type} : Lit × DataW H → Nat
  | (.string bytes, d) => bytes.length + uptoBulk d + 1
  | (_, d) => uptoBulk d + 1
 end
def uptoSmall : (H : Type) → List (DataW H) → Bool := fun _ ds => decide (uptoBulkAll ds ≤ 1048576)
def OpenSpec.upto (s : _root_.Go.ChangeSpec) : _root_.Go.OpenSpec := { _root_.Go.OpenSpec.ofChange s with cond := some uptoSmall }

/-- 'casketlaw14.SitePlays', WHERE WHAT IT READS IS OF BULK AT MOST 1048576: true; the input reads as it did. -/
def sitePlaysUptoRow : OpenClaim := { program := "ytalcfblknoojpaa", sum := "e35e779fd01168072b5147647a6a18ebeb3d65b7c176c54ea58c23617f9d3a7d", func := "casket/casketlaw14.SitePlays", spec := "sitePlays", apart := false, narrowed := true }
def SitePlaysUptoSaid : Prop := sitePlaysUptoRow.holds Try.pinned (OpenSpec.upto sitePlaysSpec)

/-- 'casketlaw14.SiteWarms', WHERE WHAT IT READS IS OF BULK AT MOST 1048576: true; the input reads as it did. -/
def siteWarmsUptoRow : OpenClaim := { program := "ytalcfblknoojpaa", sum := "e35e779fd01168072b5147647a6a18ebeb3d65b7c176c54ea58c23617f9d3a7d", func := "casket/casketlaw14.SiteWarms", spec := "siteWarms", apart := false, narrowed := true }
def SiteWarmsUptoSaid : Prop := siteWarmsUptoRow.holds Try.pinned (OpenSpec.upto siteWarmsSpec)

/-- 'casketlaw14.SiteForced', WHERE WHAT IT READS IS OF BULK AT MOST 1048576: true; the input reads as it did. -/
def siteForcedUptoRow : OpenClaim := { program := "ytalcfblknoojpaa", sum := "e35e779fd01168072b5147647a6a18ebeb3d65b7c176c54ea58c23617f9d3a7d", func := "casket/casketlaw14.SiteForced", spec := "siteForced", apart := false, narrowed := true }
def SiteForcedUptoSaid : Prop := siteForcedUptoRow.holds Try.pinned (OpenSpec.upto siteForcedSpec)

end Rows
end Go.Proofs.Ytalcfblknoojpaa
