/-
  DERIVED. GIVEN WITH THE SEED: THE CARDS: each row of YtgmimmdojkoppaaGreatDoorRows.lean that lists a variable, with what it lists TIED to the program's text (the seventh form; the later family's looks); each row that meets fmt, with fmt's text TOLD by the authors' own Lean function (tested against real Go, not proved from fmt's source: count such statements apart). THE CARD IS WHAT COUNTS. Prove the row's statement (the work); the ties are given (YtgmimmdojkoppaaGreatDoorTie.lean); close each card by the builder's one call (the guide's Derived/Test/ToyasCard.lean, 'card_holds'). Laid BY PROGRAM, IN A SANDBOX (cutbox-door.mjs). By AI agents, Wed Nov 11 2026. No macro, syntax, notation, axiom, sorry.
-/
import Derived.Test.YtgmimmdojkoppaaGreatDoorRows
import GoSem.ClaimSeven
namespace Go.Proofs.YtgmimmdojkoppaaGreatDoor
namespace Rows

/-- THE TIED CARD OF 'casketlaw10.OpsCasts'. -/
def opsCastsCard : Claim7 := { stood := { row := opsCastsRow, standIns := [], harness := (true, "1ef67dde414029db25091a39b3c5cc9e32cfbe5454209f09e5013982b18b2f09"), looks := true }, kinds := [], alts := [], laidByText := true, laidKinds := [.data, .data, .data, .data], laidTests := true, laidLooks := .later }
def OpsCastsCardSaid : Prop := Claim7.holds Tryz.pinned (.plain (OpenSpec.ofChange opsCastsSpec)) opsCastsCard

/-- THE SECOND FORM's CARD OF 'casketlaw10.OpsCasts'. -/
def opsCastsUptoCard : Claim7 := { stood := { row := opsCastsUptoRow, standIns := [], harness := (true, "1ef67dde414029db25091a39b3c5cc9e32cfbe5454209f09e5013982b18b2f09"), looks := true }, kinds := [], alts := [], laidByText := true, laidKinds := [.data, .data, .data, .data], laidTests := true, laidLooks := .later }
def OpsCastsUptoCardSaid : Prop := Claim7.holds Tryz.pinned (.plain (OpenSpec.upto opsCastsSpec)) opsCastsUptoCard
end Rows
end Go.Proofs.YtgmimmdojkoppaaGreatDoor
