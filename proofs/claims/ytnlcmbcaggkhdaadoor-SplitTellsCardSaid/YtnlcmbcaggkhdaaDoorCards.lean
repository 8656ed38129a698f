/-
  DERIVED. GIVEN WITH THE SEED: THE CARDS: each row of YtnlcmbcaggkhdaaDoorRows.lean that lists a variable, with what it lists TIED to the program's text (the seventh form; the later family's looks); each row that meets fmt, with fmt's text TOLD by the authors' own Lean function (tested against real Go, not proved from fmt's source: count such statements apart). THE CARD IS WHAT COUNTS. Prove the row's statement (the work); the ties are given (YtnlcmbcaggkhdaaDoorTie.lean); close each card by the builder's one call (the guide's Derived/Test/ToyasCard.lean, 'card_holds'). Laid BY PROGRAM, IN A SANDBOX (cutbox-door.mjs). By AI agents, Wed Nov 11 2026. No macro, syntax, notation, axiom, sorry.
-/
import Derived.Test.YtnlcmbcaggkhdaaDoorRows
import GoSem.ClaimSeven
namespace Go.Proofs.YtnlcmbcaggkhdaaDoor
namespace Rows

/-- THE TIED CARD OF 'mesnelaw02.SplitTells'. -/
def splitTellsCard : Claim7 := { stood := { row := splitTellsRow, standIns := [], harness := (true, "df12aee06c895fc0afea861743d41b0a65f3af7716d52fa347eb469ede334009"), looks := false }, kinds := [], alts := [], laidByText := true, laidKinds := [.data, .data], laidTests := true, laidLooks := .later }
def SplitTellsCardSaid : Prop := Claim7.holds Tryd.pinned (.plain (OpenSpec.ofChange splitTellsSpec)) splitTellsCard

/-- THE TIED CARD OF 'mesnelaw02.SplitBack'. -/
def splitBackCard : Claim7 := { stood := { row := splitBackRow, standIns := [], harness := (true, "df12aee06c895fc0afea861743d41b0a65f3af7716d52fa347eb469ede334009"), looks := false }, kinds := [], alts := [], laidByText := true, laidKinds := [.data, .data], laidTests := true, laidLooks := .later }
def SplitBackCardSaid : Prop := Claim7.holds Tryd.pinned (.plain (OpenSpec.ofChange splitBackSpec)) splitBackCard

/-- THE TIED CARD OF 'mesnelaw02.SplitHomes'. -/
def splitHomesCard : Claim7 := { stood := { row := splitHomesRow, standIns := [], harness := (true, "df12aee06c895fc0afea861743d41b0a65f3af7716d52fa347eb469ede334009"), looks := false }, kinds := [], alts := [], laidByText := true, laidKinds := [.data, .data], laidTests := true, laidLooks := .later }
def SplitHomesCardSaid : Prop := Claim7.holds Tryd.pinned (.plain (OpenSpec.ofChange splitHomesSpec)) splitHomesCard

/-- THE SECOND FORM's CARD OF 'mesnelaw02.SplitTells'. -/
def splitTellsUptoCard : Claim7 := { stood := { row := splitTellsUptoRow, standIns := [], harness := (true, "df12aee06c895fc0afea861743d41b0a65f3af7716d52fa347eb469ede334009"), looks := false }, kinds := [], alts := [], laidByText := true, laidKinds := [.data, .data], laidTests := true, laidLooks := .later }
def SplitTellsUptoCardSaid : Prop := Claim7.holds Tryd.pinned (.plain (OpenSpec.upto splitTellsSpec)) splitTellsUptoCard

/-- THE SECOND FORM's CARD OF 'mesnelaw02.SplitBack'. -/
def splitBackUptoCard : Claim7 := { stood := { row := splitBackUptoRow, standIns := [], harness := (true, "df12aee06c895fc0afea861743d41b0a65f3af7716d52fa347eb469ede334009"), looks := false }, kinds := [], alts := [], laidByText := true, laidKinds := [.data, .data], laidTests := true, laidLooks := .later }
def SplitBackUptoCardSaid : Prop := Claim7.holds Tryd.pinned (.plain (OpenSpec.upto splitBackSpec)) splitBackUptoCard

/-- THE SECOND FORM's CARD OF 'mesnelaw02.SplitHomes'. -/
def splitHomesUptoCard : Claim7 := { stood := { row := splitHomesUptoRow, standIns := [], harness := (true, "df12aee06c895fc0afea861743d41b0a65f3af7716d52fa347eb469ede334009"), looks := false }, kinds := [], alts := [], laidByText := true, laidKinds := [.data, .data], laidTests := true, laidLooks := .later }
def SplitHomesUptoCardSaid : Prop := Claim7.holds Tryd.pinned (.plain (OpenSpec.upto splitHomesSpec)) splitHomesUptoCard
end Rows
end Go.Proofs.YtnlcmbcaggkhdaaDoor
