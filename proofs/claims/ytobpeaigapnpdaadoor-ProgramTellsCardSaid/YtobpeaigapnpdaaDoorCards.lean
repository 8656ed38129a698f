/-
  DERIVED. GIVEN WITH THE SEED: THE CARDS: each row of YtobpeaigapnpdaaDoorRows.lean that lists a variable, with what it lists TIED to the program's text (the seventh form; the later family's looks); each row that meets fmt, with fmt's text TOLD by the authors' own Lean function (tested against real Go, not proved from fmt's source: count such statements apart). THE CARD IS WHAT COUNTS. Prove the row's statement (the work); the ties are given (YtobpeaigapnpdaaDoorTie.lean); close each card by the builder's one call (the guide's Derived/Test/ToyasCard.lean, 'card_holds'). Laid BY PROGRAM, IN A SANDBOX (cutbox-door.mjs). By AI agents, Wed Nov 11 2026. No macro, syntax, notation, axiom, sorry.
-/
import Derived.Test.YtobpeaigapnpdaaDoorRows
import GoSem.ClaimSeven
namespace Go.Proofs.YtobpeaigapnpdaaDoor
namespace Rows

/-- THE TIED CARD OF 'mesnelaw03.ProgramReads'. -/
def programReadsCard : Claim7 := { stood := { row := programReadsRow, standIns := [], harness := (true, "6c75bb52c7af01f26ee346dbd72d56d2043af2287a7077fa76c966875a565acd"), looks := false }, kinds := [], alts := [], laidByText := true, laidKinds := [.data, .data, .data], laidTests := true, laidLooks := .later }
def ProgramReadsCardSaid : Prop := Claim7.holds Tryd.pinned (.plain (OpenSpec.ofChange programReadsSpec)) programReadsCard

/-- THE TIED CARD OF 'mesnelaw03.ProgramTells'. -/
def programTellsCard : Claim7 := { stood := { row := programTellsRow, standIns := [], harness := (true, "6c75bb52c7af01f26ee346dbd72d56d2043af2287a7077fa76c966875a565acd"), looks := false }, kinds := [], alts := [], laidByText := true, laidKinds := [.data, .data, .data], laidTests := true, laidLooks := .later }
def ProgramTellsCardSaid : Prop := Claim7.holds Tryd.pinned (.plain (OpenSpec.ofChange programTellsSpec)) programTellsCard

/-- THE TIED CARD OF 'mesnelaw03.ProgramBack'. -/
def programBackCard : Claim7 := { stood := { row := programBackRow, standIns := [], harness := (true, "6c75bb52c7af01f26ee346dbd72d56d2043af2287a7077fa76c966875a565acd"), looks := false }, kinds := [], alts := [], laidByText := true, laidKinds := [.data, .data, .data], laidTests := true, laidLooks := .later }
def ProgramBackCardSaid : Prop := Claim7.holds Tryd.pinned (.plain (OpenSpec.ofChange programBackSpec)) programBackCard

/-- THE TIED CARD OF 'mesnelaw03.ProgramJoin'. -/
def programJoinCard : Claim7 := { stood := { row := programJoinRow, standIns := [], harness := (true, "6c75bb52c7af01f26ee346dbd72d56d2043af2287a7077fa76c966875a565acd"), looks := false }, kinds := [], alts := [], laidByText := true, laidKinds := [.data, .data, .data], laidTests := true, laidLooks := .later }
def ProgramJoinCardSaid : Prop := Claim7.holds Tryd.pinned (.plain (OpenSpec.ofChange programJoinSpec)) programJoinCard

/-- THE SECOND FORM's CARD OF 'mesnelaw03.ProgramReads'. -/
def programReadsUptoCard : Claim7 := { stood := { row := programReadsUptoRow, standIns := [], harness := (true, "6c75bb52c7af01f26ee346dbd72d56d2043af2287a7077fa76c966875a565acd"), looks := false }, kinds := [], alts := [], laidByText := true, laidKinds := [.data, .data, .data], laidTests := true, laidLooks := .later }
def ProgramReadsUptoCardSaid : Prop := Claim7.holds Tryd.pinned (.plain (OpenSpec.upto programReadsSpec)) programReadsUptoCard

/-- THE SECOND FORM's CARD OF 'mesnelaw03.ProgramTells'. -/
def programTellsUptoCard : Claim7 := { stood := { row := programTellsUptoRow, standIns := [], harness := (true, "6c75bb52c7af01f26ee346dbd72d56d2043af2287a7077fa76c966875a565acd"), looks := false }, kinds := [], alts := [], laidByText := true, laidKinds := [.data, .data, .data], laidTests := true, laidLooks := .later }
def ProgramTellsUptoCardSaid : Prop := Claim7.holds Tryd.pinned (.plain (OpenSpec.upto programTellsSpec)) programTellsUptoCard

/-- THE SECOND FORM's CARD OF 'mesnelaw03.ProgramBack'. -/
def programBackUptoCard : Claim7 := { stood := { row := programBackUptoRow, standIns := [], harness := (true, "6c75bb52c7af01f26ee346dbd72d56d2043af2287a7077fa76c966875a565acd"), looks := false }, kinds := [], alts := [], laidByText := true, laidKinds := [.data, .data, .data], laidTests := true, laidLooks := .later }
def ProgramBackUptoCardSaid : Prop := Claim7.holds Tryd.pinned (.plain (OpenSpec.upto programBackSpec)) programBackUptoCard

/-- THE SECOND FORM's CARD OF 'mesnelaw03.ProgramJoin'. -/
def programJoinUptoCard : Claim7 := { stood := { row := programJoinUptoRow, standIns := [], harness := (true, "6c75bb52c7af01f26ee346dbd72d56d2043af2287a7077fa76c966875a565acd"), looks := false }, kinds := [], alts := [], laidByText := true, laidKinds := [.data, .data, .data], laidTests := true, laidLooks := .later }
def ProgramJoinUptoCardSaid : Prop := Claim7.holds Tryd.pinned (.plain (OpenSpec.upto programJoinSpec)) programJoinUptoCard
end Rows
end Go.Proofs.YtobpeaigapnpdaaDoor
