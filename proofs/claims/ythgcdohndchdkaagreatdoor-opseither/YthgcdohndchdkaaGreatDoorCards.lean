/-
  DERIVED. GIVEN WITH THE SEED: THE CARDS: each row of YthgcdohndchdkaaGreatDoorRows.lean that lists a variable, with what it lists TIED to the program's text (the seventh form; the later family's looks); each row that meets fmt, with fmt's text TOLD by the authors' own Lean function (tested against real Go, not proved from fmt's source: count such statements apart). THE CARD IS WHAT COUNTS. Prove the row's statement (the work); the ties are given (YthgcdohndchdkaaGreatDoorTie.lean); close each card by the builder's one call (the guide's Derived/Test/ToyasCard.lean, 'card_holds'). Laid BY PROGRAM, IN A SANDBOX (cutbox-door.mjs). By AI agents, Wed Nov 11 2026. No macro, syntax, notation, axiom, sorry.
-/
import Derived.Test.YthgcdohndchdkaaGreatDoorRows
import GoSem.ClaimSeven
namespace Go.Proofs.YthgcdohndchdkaaGreatDoor
namespace Rows

/-- THE TIED CARD OF 'casketlaw10.OpsNoStray'. -/
def opsNoStrayCard : Claim7 := { stood := { row := opsNoStrayRow, standIns := [], harness := (true, "7cdf2c59cf23ddd9ace8d89b4aaee04b8d7c99e0bd8c81c0f09e51fa5935906e"), looks := true }, kinds := [], alts := [], laidByText := true, laidKinds := [.data, .data, .data, .data], laidTests := true, laidLooks := .later }
def OpsNoStrayCardSaid : Prop := Claim7.holds Tryz.pinned (.plain (OpenSpec.ofChange opsNoStraySpec)) opsNoStrayCard

/-- THE TIED CARD OF 'casketlaw10.OpsMixed'. -/
def opsMixedCard : Claim7 := { stood := { row := opsMixedRow, standIns := [], harness := (true, "7cdf2c59cf23ddd9ace8d89b4aaee04b8d7c99e0bd8c81c0f09e51fa5935906e"), looks := true }, kinds := [], alts := [], laidByText := true, laidKinds := [.data, .data, .data, .data], laidTests := true, laidLooks := .later }
def OpsMixedCardSaid : Prop := Claim7.holds Tryz.pinned (.plain (OpenSpec.ofChange opsMixedSpec)) opsMixedCard

/-- THE TIED CARD OF 'casketlaw10.OpsEither'. -/
def opsEitherCard : Claim7 := { stood := { row := opsEitherRow, standIns := [], harness := (true, "7cdf2c59cf23ddd9ace8d89b4aaee04b8d7c99e0bd8c81c0f09e51fa5935906e"), looks := true }, kinds := [], alts := [], laidByText := true, laidKinds := [.data, .data, .data, .data], laidTests := true, laidLooks := .later }
def OpsEitherCardSaid : Prop := Claim7.holds Tryz.pinned (.plain (OpenSpec.ofChange opsEitherSpec)) opsEitherCard

/-- THE TIED CARD OF 'casketlaw10.OpsBits'. -/
def opsBitsCard : Claim7 := { stood := { row := opsBitsRow, standIns := [], harness := (true, "7cdf2c59cf23ddd9ace8d89b4aaee04b8d7c99e0bd8c81c0f09e51fa5935906e"), looks := true }, kinds := [], alts := [], laidByText := true, laidKinds := [.data, .data, .data, .data], laidTests := true, laidLooks := .later }
def OpsBitsCardSaid : Prop := Claim7.holds Tryz.pinned (.plain (OpenSpec.ofChange opsBitsSpec)) opsBitsCard

/-- THE SECOND FORM's CARD OF 'casketlaw10.OpsNoStray'. -/
def opsNoStrayUptoCard : Claim7 := { stood := { row := opsNoStrayUptoRow, standIns := [], harness := (true, "7cdf2c59cf23ddd9ace8d89b4aaee04b8d7c99e0bd8c81c0f09e51fa5935906e"), looks := true }, kinds := [], alts := [], laidByText := true, laidKinds := [.data, .data, .data, .data], laidTests := true, laidLooks := .later }
def OpsNoStrayUptoCardSaid : Prop := Claim7.holds Tryz.pinned (.plain (OpenSpec.upto opsNoStraySpec)) opsNoStrayUptoCard

/-- THE SECOND FORM's CARD OF 'casketlaw10.OpsMixed'. -/
def opsMixedUptoCard : Claim7 := { stood := { row := opsMixedUptoRow, standIns := [], harness := (true, "7cdf2c59cf23ddd9ace8d89b4aaee04b8d7c99e0bd8c81c0f09e51fa5935906e"), looks := true }, kinds := [], alts := [], laidByText := true, laidKinds := [.data, .data, .data, .data], laidTests := true, laidLooks := .later }
def OpsMixedUptoCardSaid : Prop := Claim7.holds Tryz.pinned (.plain (OpenSpec.upto opsMixedSpec)) opsMixedUptoCard

/-- THE SECOND FORM's CARD OF 'casketlaw10.OpsEither'. -/
def opsEitherUptoCard : Claim7 := { stood := { row := opsEitherUptoRow, standIns := [], harness := (true, "7cdf2c59cf23ddd9ace8d89b4aaee04b8d7c99e0bd8c81c0f09e51fa5935906e"), looks := true }, kinds := [], alts := [], laidByText := true, laidKinds := [.data, .data, .data, .data], laidTests := true, laidLooks := .later }
def OpsEitherUptoCardSaid : Prop := Claim7.holds Tryz.pinned (.plain (OpenSpec.upto opsEitherSpec)) opsEitherUptoCard

/-- THE SECOND FORM's CARD OF 'casketlaw10.OpsBits'. -/
def opsBitsUptoCard : Claim7 := { stood := { row := opsBitsUptoRow, standIns := [], harness := (true, "7cdf2c59cf23ddd9ace8d89b4aaee04b8d7c99e0bd8c81c0f09e51fa5935906e"), looks := true }, kinds := [], alts := [], laidByText := true, laidKinds := [.data, .data, .data, .data], laidTests := true, laidLooks := .later }
def OpsBitsUptoCardSaid : Prop := Claim7.holds Tryz.pinned (.plain (OpenSpec.upto opsBitsSpec)) opsBitsUptoCard
end Rows
end Go.Proofs.YthgcdohndchdkaaGreatDoor
