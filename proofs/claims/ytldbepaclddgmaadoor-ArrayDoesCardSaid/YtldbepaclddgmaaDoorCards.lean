/-
  DERIVED. GIVEN WITH THE SEED: THE CARDS: each row of YtldbepaclddgmaaDoorRows.lean that lists a variable, with what it lists TIED to the program's text (the seventh form; the later family's looks); each row that meets fmt, with fmt's text TOLD by the authors' own Lean function (tested against real Go, not proved from fmt's source: count such statements apart). THE CARD IS WHAT COUNTS. Prove the row's statement (the work); the ties are given (YtldbepaclddgmaaDoorTie.lean); close each card by the builder's one call (the guide's Derived/Test/ToyasCard.lean, 'card_holds'). Laid BY PROGRAM, IN A SANDBOX (cutbox-door.mjs). By AI agents, Wed Nov 11 2026. No macro, syntax, notation, axiom, sorry.
-/
import Derived.Test.YtldbepaclddgmaaDoorRows
import GoSem.ClaimSeven
namespace Go.Proofs.YtldbepaclddgmaaDoor
namespace Rows

/-- THE TIED CARD OF 'mesnelaw09.ArrayDoes'. -/
def arrayDoesCard : Claim7 := { stood := { row := arrayDoesRow, standIns := [], harness := (true, "f7f16bf88c038fc0973db72cb2d4bed215df6e05d968375bf964cc9dfd681877"), looks := false }, kinds := [], alts := [], laidByText := true, laidKinds := [.data, .data], laidTests := true, laidLooks := .later }
def ArrayDoesCardSaid : Prop := Claim7.holds Tryd.pinned (.plain (OpenSpec.ofChange arrayDoesSpec)) arrayDoesCard

/-- THE TIED CARD OF 'mesnelaw09.ArrayOnce'. -/
def arrayOnceCard : Claim7 := { stood := { row := arrayOnceRow, standIns := [], harness := (true, "f7f16bf88c038fc0973db72cb2d4bed215df6e05d968375bf964cc9dfd681877"), looks := false }, kinds := [], alts := [], laidByText := true, laidKinds := [.data, .data], laidTests := true, laidLooks := .later }
def ArrayOnceCardSaid : Prop := Claim7.holds Tryd.pinned (.plain (OpenSpec.ofChange arrayOnceSpec)) arrayOnceCard

/-- THE TIED CARD OF 'mesnelaw09.ArrayHolds'. -/
def arrayHoldsCard : Claim7 := { stood := { row := arrayHoldsRow, standIns := [], harness := (true, "f7f16bf88c038fc0973db72cb2d4bed215df6e05d968375bf964cc9dfd681877"), looks := false }, kinds := [], alts := [], laidByText := true, laidKinds := [.data, .data], laidTests := true, laidLooks := .later }
def ArrayHoldsCardSaid : Prop := Claim7.holds Tryd.pinned (.plain (OpenSpec.ofChange arrayHoldsSpec)) arrayHoldsCard

/-- THE SECOND FORM's CARD OF 'mesnelaw09.ArrayDoes'. -/
def arrayDoesUptoCard : Claim7 := { stood := { row := arrayDoesUptoRow, standIns := [], harness := (true, "f7f16bf88c038fc0973db72cb2d4bed215df6e05d968375bf964cc9dfd681877"), looks := false }, kinds := [], alts := [], laidByText := true, laidKinds := [.data, .data], laidTests := true, laidLooks := .later }
def ArrayDoesUptoCardSaid : Prop := Claim7.holds Tryd.pinned (.plain (OpenSpec.upto arrayDoesSpec)) arrayDoesUptoCard

/-- THE SECOND FORM's CARD OF 'mesnelaw09.ArrayOnce'. -/
def arrayOnceUptoCard : Claim7 := { stood := { row := arrayOnceUptoRow, standIns := [], harness := (true, "f7f16bf88c038fc0973db72cb2d4bed215df6e05d968375bf964cc9dfd681877"), looks := false }, kinds := [], alts := [], laidByText := true, laidKinds := [.data, .data], laidTests := true, laidLooks := .later }
def ArrayOnceUptoCardSaid : Prop := Claim7.holds Tryd.pinned (.plain (OpenSpec.upto arrayOnceSpec)) arrayOnceUptoCard

/-- THE SECOND FORM's CARD OF 'mesnelaw09.ArrayHolds'. -/
def arrayHoldsUptoCard : Claim7 := { stood := { row := arrayHoldsUptoRow, standIns := [], harness := (true, "f7f16bf88c038fc0973db72cb2d4bed215df6e05d968375bf964cc9dfd681877"), looks := false }, kinds := [], alts := [], laidByText := true, laidKinds := [.data, .data], laidTests := true, laidLooks := .later }
def ArrayHoldsUptoCardSaid : Prop := Claim7.holds Tryd.pinned (.plain (OpenSpec.upto arrayHoldsSpec)) arrayHoldsUptoCard
end Rows
end Go.Proofs.YtldbepaclddgmaaDoor
