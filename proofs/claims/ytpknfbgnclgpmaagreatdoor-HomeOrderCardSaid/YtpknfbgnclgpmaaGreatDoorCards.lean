/-
  DERIVED. GIVEN WITH THE SEED: THE CARDS: each row of YtpknfbgnclgpmaaGreatDoorRows.lean that lists a variable, with what it lists TIED to the program's text (the seventh form; the later family's looks); each row that meets fmt, with fmt's text TOLD by the authors' own Lean function (tested against real Go, not proved from fmt's source: count such statements apart). THE CARD IS WHAT COUNTS. Prove the row's statement (the work); the ties are given (YtpknfbgnclgpmaaGreatDoorTie.lean); close each card by the builder's one call (the guide's Derived/Test/ToyasCard.lean, 'card_holds'). Laid BY PROGRAM, IN A SANDBOX (cutbox-door.mjs). By AI agents, Wed Nov 11 2026. No macro, syntax, notation, axiom, sorry.
-/
import Derived.Test.YtpknfbgnclgpmaaGreatDoorRows
import GoSem.ClaimSeven
namespace Go.Proofs.YtpknfbgnclgpmaaGreatDoor
namespace Rows

/-- THE TIED CARD OF 'mesnelaw16.HomeDoes'. -/
def homeDoesCard : Claim7 := { stood := { row := homeDoesRow, standIns := [], harness := (true, "8e61130637c8e9662c431ffe5db5ee86592eeeadd68f78e4aa71a3ab86a3ad83"), looks := true }, kinds := [], alts := [], laidByText := true, laidKinds := [.data, .data], laidTests := true, laidLooks := .later }
def HomeDoesCardSaid : Prop := Claim7.holds Tryz.pinned (.plain (OpenSpec.ofChange homeDoesSpec)) homeDoesCard

/-- THE TIED CARD OF 'mesnelaw16.HomeOrder'. -/
def homeOrderCard : Claim7 := { stood := { row := homeOrderRow, standIns := [], harness := (true, "8e61130637c8e9662c431ffe5db5ee86592eeeadd68f78e4aa71a3ab86a3ad83"), looks := true }, kinds := [], alts := [], laidByText := true, laidKinds := [.data, .data], laidTests := true, laidLooks := .later }
def HomeOrderCardSaid : Prop := Claim7.holds Tryz.pinned (.plain (OpenSpec.ofChange homeOrderSpec)) homeOrderCard

/-- THE TIED CARD OF 'mesnelaw16.HomeBounds'. -/
def homeBoundsCard : Claim7 := { stood := { row := homeBoundsRow, standIns := [], harness := (true, "8e61130637c8e9662c431ffe5db5ee86592eeeadd68f78e4aa71a3ab86a3ad83"), looks := true }, kinds := [], alts := [], laidByText := true, laidKinds := [.data, .data], laidTests := true, laidLooks := .later }
def HomeBoundsCardSaid : Prop := Claim7.holds Tryz.pinned (.plain (OpenSpec.ofChange homeBoundsSpec)) homeBoundsCard

/-- THE SECOND FORM's CARD OF 'mesnelaw16.HomeDoes'. -/
def homeDoesUptoCard : Claim7 := { stood := { row := homeDoesUptoRow, standIns := [], harness := (true, "8e61130637c8e9662c431ffe5db5ee86592eeeadd68f78e4aa71a3ab86a3ad83"), looks := true }, kinds := [], alts := [], laidByText := true, laidKinds := [.data, .data], laidTests := true, laidLooks := .later }
def HomeDoesUptoCardSaid : Prop := Claim7.holds Tryz.pinned (.plain (OpenSpec.upto homeDoesSpec)) homeDoesUptoCard

/-- THE SECOND FORM's CARD OF 'mesnelaw16.HomeOrder'. -/
def homeOrderUptoCard : Claim7 := { stood := { row := homeOrderUptoRow, standIns := [], harness := (true, "8e61130637c8e9662c431ffe5db5ee86592eeeadd68f78e4aa71a3ab86a3ad83"), looks := true }, kinds := [], alts := [], laidByText := true, laidKinds := [.data, .data], laidTests := true, laidLooks := .later }
def HomeOrderUptoCardSaid : Prop := Claim7.holds Tryz.pinned (.plain (OpenSpec.upto homeOrderSpec)) homeOrderUptoCard

/-- THE SECOND FORM's CARD OF 'mesnelaw16.HomeBounds'. -/
def homeBoundsUptoCard : Claim7 := { stood := { row := homeBoundsUptoRow, standIns := [], harness := (true, "8e61130637c8e9662c431ffe5db5ee86592eeeadd68f78e4aa71a3ab86a3ad83"), looks := true }, kinds := [], alts := [], laidByText := true, laidKinds := [.data, .data], laidTests := true, laidLooks := .later }
def HomeBoundsUptoCardSaid : Prop := Claim7.holds Tryz.pinned (.plain (OpenSpec.upto homeBoundsSpec)) homeBoundsUptoCard
end Rows
end Go.Proofs.YtpknfbgnclgpmaaGreatDoor
