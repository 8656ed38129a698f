/-
  DERIVED. GIVEN WITH THE SEED: THE CARDS: each row of YticfdkopephkkaaDoorRows.lean that lists a variable, with what it lists TIED to the program's text (the seventh form; the later family's looks); each row that meets fmt, with fmt's text TOLD by the authors' own Lean function (tested against real Go, not proved from fmt's source: count such statements apart). THE CARD IS WHAT COUNTS. Prove the row's statement (the work); the ties are given (YticfdkopephkkaaDoorTie.lean); close each card by the builder's one call (the guide's Derived/Test/ToyasCard.lean, 'card_holds'). Laid BY PROGRAM, IN A SANDBOX (cutbox-door.mjs). By AI agents, Wed Nov 11 2026. No macro, syntax, notation, axiom, sorry.
-/
import Derived.Test.YticfdkopephkkaaDoorRows
import GoSem.ClaimSeven
namespace Go.Proofs.YticfdkopephkkaaDoor
namespace Rows

/-- THE TIED CARD OF 'mesnelaw12.MemoryLast'. -/
def memoryLastCard : Claim7 := { stood := { row := memoryLastRow, standIns := [], harness := (true, "31066e7ee7c8d8bcf89c3f6698c82e931d80747f573f3a5a917675403e8bb72f"), looks := false }, kinds := [], alts := [], laidByText := true, laidKinds := [.data, .data], laidTests := true, laidLooks := .later }
def MemoryLastCardSaid : Prop := Claim7.holds Tryd.pinned (.plain (OpenSpec.ofChange memoryLastSpec)) memoryLastCard

/-- THE TIED CARD OF 'mesnelaw12.MemoryApplies'. -/
def memoryAppliesCard : Claim7 := { stood := { row := memoryAppliesRow, standIns := [], harness := (true, "31066e7ee7c8d8bcf89c3f6698c82e931d80747f573f3a5a917675403e8bb72f"), looks := false }, kinds := [], alts := [], laidByText := true, laidKinds := [.data, .data], laidTests := true, laidLooks := .later }
def MemoryAppliesCardSaid : Prop := Claim7.holds Tryd.pinned (.plain (OpenSpec.ofChange memoryAppliesSpec)) memoryAppliesCard

/-- THE SECOND FORM's CARD OF 'mesnelaw12.MemoryLast'. -/
def memoryLastUptoCard : Claim7 := { stood := { row := memoryLastUptoRow, standIns := [], harness := (true, "31066e7ee7c8d8bcf89c3f6698c82e931d80747f573f3a5a917675403e8bb72f"), looks := false }, kinds := [], alts := [], laidByText := true, laidKinds := [.data, .data], laidTests := true, laidLooks := .later }
def MemoryLastUptoCardSaid : Prop := Claim7.holds Tryd.pinned (.plain (OpenSpec.upto memoryLastSpec)) memoryLastUptoCard

/-- THE SECOND FORM's CARD OF 'mesnelaw12.MemoryApplies'. -/
def memoryAppliesUptoCard : Claim7 := { stood := { row := memoryAppliesUptoRow, standIns := [], harness := (true, "31066e7ee7c8d8bcf89c3f6698c82e931d80747f573f3a5a917675403e8bb72f"), looks := false }, kinds := [], alts := [], laidByText := true, laidKinds := [.data, .data], laidTests := true, laidLooks := .later }
def MemoryAppliesUptoCardSaid : Prop := Claim7.holds Tryd.pinned (.plain (OpenSpec.upto memoryAppliesSpec)) memoryAppliesUptoCard
end Rows
end Go.Proofs.YticfdkopephkkaaDoor
