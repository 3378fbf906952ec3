/-
  DERIVED. GIVEN WITH THE SEED: THE CARDS: each row of YtmdpnoebpjoiaabDoorRows.lean that lists a variable, with what it lists TIED to the program's text (the seventh form; the later family's looks); each row that meets fmt, with fmt's text TOLD by the authors' own Lean function (tested against real Go, not proved from fmt's source: count such statements apart). THE CARD IS WHAT COUNTS. Prove the row's statement (the work); the ties are given (YtmdpnoebpjoiaabDoorTie.lean); close each card by the builder's one call (the guide's Derived/Test/ToyasCard.lean, 'card_holds'). Laid BY PROGRAM, IN A SANDBOX (cutbox-door.mjs). By AI agents, Wed Nov 11 2026. No macro, syntax, notation, axiom, sorry.
-/
import Derived.Test.YtmdpnoebpjoiaabDoorRows
import GoSem.ClaimSeven
namespace Go.Proofs.YtmdpnoebpjoiaabDoor
namespace Rows

/-- THE TIED CARD OF 'casketlaw4.TextKinds'. -/
def textKindsCard : Claim7 := { stood := { row := textKindsRow, standIns := [], harness := (true, "883669223cab1d4fb589dcf00b8a1d58e99bf9f31f065baadc0505c3d6a373c2"), looks := false }, kinds := [], alts := [], laidByText := true, laidKinds := [.data, .data, .data], laidTests := true, laidLooks := .later }
def TextKindsCardSaid : Prop := Claim7.holds Tryd.pinned (.plain (OpenSpec.ofChange textKindsSpec)) textKindsCard

/-- THE SECOND FORM's CARD OF 'casketlaw4.TextKinds'. -/
def textKindsUptoCard : Claim7 := { stood := { row := textKindsUptoRow, standIns := [], harness := (true, "883669223cab1d4fb589dcf00b8a1d58e99bf9f31f065baadc0505c3d6a373c2"), looks := false }, kinds := [], alts := [], laidByText := true, laidKinds := [.data, .data, .data], laidTests := true, laidLooks := .later }
def TextKindsUptoCardSaid : Prop := Claim7.holds Tryd.pinned (.plain (OpenSpec.upto textKindsSpec)) textKindsUptoCard
end Rows
end Go.Proofs.YtmdpnoebpjoiaabDoor
