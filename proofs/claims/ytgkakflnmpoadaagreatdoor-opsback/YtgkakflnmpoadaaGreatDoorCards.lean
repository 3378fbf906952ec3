/-
  DERIVED. GIVEN WITH THE SEED: THE CARDS: each row of YtgkakflnmpoadaaGreatDoorRows.lean that lists a variable, with what it lists TIED to the program's text (the seventh form; the later family's looks); each row that meets fmt, with fmt's text TOLD by the authors' own Lean function (tested against real Go, not proved from fmt's source: count such statements apart). THE CARD IS WHAT COUNTS. Prove the row's statement (the work); the ties are given (YtgkakflnmpoadaaGreatDoorTie.lean); close each card by the builder's one call (the guide's Derived/Test/ToyasCard.lean, 'card_holds'). Laid BY PROGRAM, IN A SANDBOX (cutbox-door.mjs). By AI agents, Wed Nov 11 2026. No macro, syntax, notation, axiom, sorry.
-/
import Derived.Test.YtgkakflnmpoadaaGreatDoorRows
import GoSem.ClaimSeven
namespace Go.Proofs.YtgkakflnmpoadaaGreatDoor
namespace Rows

/-- THE TIED CARD OF 'casketlaw10.OpsBack'. -/
def opsBackCard : Claim7 := { stood := { row := opsBackRow, standIns := [], harness := (true, "d6b2dd2cd87d76bd15a2aa4b79930cf26c5c146a751586713def0d9f98ae1b10"), looks := true }, kinds := [], alts := [], laidByText := true, laidKinds := [.data, .data, .data, .data], laidTests := true, laidLooks := .later }
def OpsBackCardSaid : Prop := Claim7.holds Tryz.pinned (.plain (OpenSpec.ofChange opsBackSpec)) opsBackCard

/-- THE SECOND FORM's CARD OF 'casketlaw10.OpsBack'. -/
def opsBackUptoCard : Claim7 := { stood := { row := opsBackUptoRow, standIns := [], harness := (true, "d6b2dd2cd87d76bd15a2aa4b79930cf26c5c146a751586713def0d9f98ae1b10"), looks := true }, kinds := [], alts := [], laidByText := true, laidKinds := [.data, .data, .data, .data], laidTests := true, laidLooks := .later }
def OpsBackUptoCardSaid : Prop := Claim7.holds Tryz.pinned (.plain (OpenSpec.upto opsBackSpec)) opsBackUptoCard
end Rows
end Go.Proofs.YtgkakflnmpoadaaGreatDoor
