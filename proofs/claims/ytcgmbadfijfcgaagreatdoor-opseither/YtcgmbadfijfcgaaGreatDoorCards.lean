/-
  DERIVED. GIVEN WITH THE SEED: THE CARDS: each row of YtcgmbadfijfcgaaGreatDoorRows.lean that lists a variable, with what it lists TIED to the program's text (the seventh form; the later family's looks); each row that meets fmt, with fmt's text TOLD by the authors' own Lean function (tested against real Go, not proved from fmt's source: count such statements apart). THE CARD IS WHAT COUNTS. Prove the row's statement (the work); the ties are given (YtcgmbadfijfcgaaGreatDoorTie.lean); close each card by the builder's one call (the guide's Derived/Test/ToyasCard.lean, 'card_holds'). Laid BY PROGRAM, IN A SANDBOX (cutbox-door.mjs). By AI agents, Wed Nov 11 2026. No macro, syntax, notation, axiom, sorry.
-/
import Derived.Test.YtcgmbadfijfcgaaGreatDoorRows
import GoSem.ClaimSeven
namespace Go.Proofs.YtcgmbadfijfcgaaGreatDoor
namespace Rows

/-- THE TIED CARD OF 'casketlaw10.OpsBits'. -/
def opsBitsCard : Claim7 := { stood := { row := opsBitsRow, standIns := [], harness := (true, "b76f1cb1dd15554ad94108471565bd37c0f0c26898ff19c745c6db68ce5ae287"), looks := true }, kinds := [], alts := [], laidByText := true, laidKinds := [.data, .data, .data, .data], laidTests := true, laidLooks := .later }
def OpsBitsCardSaid : Prop := Claim7.holds Tryz.pinned (.plain (OpenSpec.ofChange opsBitsSpec)) opsBitsCard

/-- THE TIED CARD OF 'casketlaw10.OpsMixed'. -/
def opsMixedCard : Claim7 := { stood := { row := opsMixedRow, standIns := [], harness := (true, "b76f1cb1dd15554ad94108471565bd37c0f0c26898ff19c745c6db68ce5ae287"), looks := true }, kinds := [], alts := [], laidByText := true, laidKinds := [.data, .data, .data, .data], laidTests := true, laidLooks := .later }
def OpsMixedCardSaid : Prop := Claim7.holds Tryz.pinned (.plain (OpenSpec.ofChange opsMixedSpec)) opsMixedCard

/-- THE TIED CARD OF 'casketlaw10.OpsEither'. -/
def opsEitherCard : Claim7 := { stood := { row := opsEitherRow, standIns := [], harness := (true, "b76f1cb1dd15554ad94108471565bd37c0f0c26898ff19c745c6db68ce5ae287"), looks := true }, kinds := [], alts := [], laidByText := true, laidKinds := [.data, .data, .data, .data], laidTests := true, laidLooks := .later }
def OpsEitherCardSaid : Prop := Claim7.holds Tryz.pinned (.plain (OpenSpec.ofChange opsEitherSpec)) opsEitherCard

/-- THE TIED CARD OF 'casketlaw10.OpsCasts'. -/
def opsCastsCard : Claim7 := { stood := { row := opsCastsRow, standIns := [], harness := (true, "b76f1cb1dd15554ad94108471565bd37c0f0c26898ff19c745c6db68ce5ae287"), looks := true }, kinds := [], alts := [], laidByText := true, laidKinds := [.data, .data, .data, .data], laidTests := true, laidLooks := .later }
def OpsCastsCardSaid : Prop := Claim7.holds Tryz.pinned (.plain (OpenSpec.ofChange opsCastsSpec)) opsCastsCard

/-- THE TIED CARD OF 'casketlaw10.OpsNoStray'. -/
def opsNoStrayCard : Claim7 := { stood := { row := opsNoStrayRow, standIns := [], harness := (true, "b76f1cb1dd15554ad94108471565bd37c0f0c26898ff19c745c6db68ce5ae287"), looks := true }, kinds := [], alts := [], laidByText := true, laidKinds := [.data, .data, .data, .data], laidTests := true, laidLooks := .later }
def OpsNoStrayCardSaid : Prop := Claim7.holds Tryz.pinned (.plain (OpenSpec.ofChange opsNoStraySpec)) opsNoStrayCard

/-- THE SECOND FORM's CARD OF 'casketlaw10.OpsBits'. -/
def opsBitsUptoCard : Claim7 := { stood := { row := opsBitsUptoRow, standIns := [], harness := (true, "b76f1cb1dd15554ad94108471565bd37c0f0c26898ff19c745c6db68ce5ae287"), looks := true }, kinds := [], alts := [], laidByText := true, laidKinds := [.data, .data, .data, .data], laidTests := true, laidLooks := .later }
def OpsBitsUptoCardSaid : Prop := Claim7.holds Tryz.pinned (.plain (OpenSpec.upto opsBitsSpec)) opsBitsUptoCard

/-- THE SECOND FORM's CARD OF 'casketlaw10.OpsMixed'. -/
def opsMixedUptoCard : Claim7 := { stood := { row := opsMixedUptoRow, standIns := [], harness := (true, "b76f1cb1dd15554ad94108471565bd37c0f0c26898ff19c745c6db68ce5ae287"), looks := true }, kinds := [], alts := [], laidByText := true, laidKinds := [.data, .data, .data, .data], laidTests := true, laidLooks := .later }
def OpsMixedUptoCardSaid : Prop := Claim7.holds Tryz.pinned (.plain (OpenSpec.upto opsMixedSpec)) opsMixedUptoCard

/-- THE SECOND FORM's CARD OF 'casketlaw10.OpsEither'. -/
def opsEitherUptoCard : Claim7 := { stood := { row := opsEitherUptoRow, standIns := [], harness := (true, "b76f1cb1dd15554ad94108471565bd37c0f0c26898ff19c745c6db68ce5ae287"), looks := true }, kinds := [], alts := [], laidByText := true, laidKinds := [.data, .data, .data, .data], laidTests := true, laidLooks := .later }
def OpsEitherUptoCardSaid : Prop := Claim7.holds Tryz.pinned (.plain (OpenSpec.upto opsEitherSpec)) opsEitherUptoCard

/-- THE SECOND FORM's CARD OF 'casketlaw10.OpsCasts'. -/
def opsCastsUptoCard : Claim7 := { stood := { row := opsCastsUptoRow, standIns := [], harness := (true, "b76f1cb1dd15554ad94108471565bd37c0f0c26898ff19c745c6db68ce5ae287"), looks := true }, kinds := [], alts := [], laidByText := true, laidKinds := [.data, .data, .data, .data], laidTests := true, laidLooks := .later }
def OpsCastsUptoCardSaid : Prop := Claim7.holds Tryz.pinned (.plain (OpenSpec.upto opsCastsSpec)) opsCastsUptoCard

/-- THE SECOND FORM's CARD OF 'casketlaw10.OpsNoStray'. -/
def opsNoStrayUptoCard : Claim7 := { stood := { row := opsNoStrayUptoRow, standIns := [], harness := (true, "b76f1cb1dd15554ad94108471565bd37c0f0c26898ff19c745c6db68ce5ae287"), looks := true }, kinds := [], alts := [], laidByText := true, laidKinds := [.data, .data, .data, .data], laidTests := true, laidLooks := .later }
def OpsNoStrayUptoCardSaid : Prop := Claim7.holds Tryz.pinned (.plain (OpenSpec.upto opsNoStraySpec)) opsNoStrayUptoCard
end Rows
end Go.Proofs.YtcgmbadfijfcgaaGreatDoor
