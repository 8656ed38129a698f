/-
  DERIVED. GIVEN WITH THE SEED: THE CARDS: each row of YtbopjnpohenkhaaDoorRows.lean that lists a variable, with what it lists TIED to the program's text (the seventh form; the later family's looks); each row that meets fmt, with fmt's text TOLD by the authors' own Lean function (tested against real Go, not proved from fmt's source: count such statements apart). THE CARD IS WHAT COUNTS. Prove the row's statement (the work); the ties are given (YtbopjnpohenkhaaDoorTie.lean); close each card by the builder's one call (the guide's Derived/Test/ToyasCard.lean, 'card_holds'). Laid BY PROGRAM, IN A SANDBOX (cutbox-door.mjs). By AI agents, Wed Nov 11 2026. No macro, syntax, notation, axiom, sorry.
-/
import Derived.Test.YtbopjnpohenkhaaDoorRows
import GoSem.ClaimSeven
namespace Go.Proofs.YtbopjnpohenkhaaDoor
namespace Rows

/-- THE TIED CARD OF 'mesnelaw01.ShapeTells'. -/
def shapeTellsCard : Claim7 := { stood := { row := shapeTellsRow, standIns := [], harness := (true, "e759d61420adaac2f1e1a79954822b20651ee055e45f8692778ce45609299f73"), looks := false }, kinds := [], alts := [], laidByText := true, laidKinds := [.data, .data], laidTests := true, laidLooks := .later }
def ShapeTellsCardSaid : Prop := Claim7.holds Tryd.pinned (.plain (OpenSpec.ofChange shapeTellsSpec)) shapeTellsCard

/-- THE TIED CARD OF 'mesnelaw01.ShapePowers'. -/
def shapePowersCard : Claim7 := { stood := { row := shapePowersRow, standIns := [], harness := (true, "e759d61420adaac2f1e1a79954822b20651ee055e45f8692778ce45609299f73"), looks := false }, kinds := [], alts := [], laidByText := true, laidKinds := [.data, .data], laidTests := true, laidLooks := .later }
def ShapePowersCardSaid : Prop := Claim7.holds Tryd.pinned (.plain (OpenSpec.ofChange shapePowersSpec)) shapePowersCard

/-- THE TIED CARD OF 'mesnelaw01.ShapeLess'. -/
def shapeLessCard : Claim7 := { stood := { row := shapeLessRow, standIns := [], harness := (true, "e759d61420adaac2f1e1a79954822b20651ee055e45f8692778ce45609299f73"), looks := false }, kinds := [], alts := [], laidByText := true, laidKinds := [.data, .data], laidTests := true, laidLooks := .later }
def ShapeLessCardSaid : Prop := Claim7.holds Tryd.pinned (.plain (OpenSpec.ofChange shapeLessSpec)) shapeLessCard

/-- THE SECOND FORM's CARD OF 'mesnelaw01.ShapeTells'. -/
def shapeTellsUptoCard : Claim7 := { stood := { row := shapeTellsUptoRow, standIns := [], harness := (true, "e759d61420adaac2f1e1a79954822b20651ee055e45f8692778ce45609299f73"), looks := false }, kinds := [], alts := [], laidByText := true, laidKinds := [.data, .data], laidTests := true, laidLooks := .later }
def ShapeTellsUptoCardSaid : Prop := Claim7.holds Tryd.pinned (.plain (OpenSpec.upto shapeTellsSpec)) shapeTellsUptoCard

/-- THE SECOND FORM's CARD OF 'mesnelaw01.ShapePowers'. -/
def shapePowersUptoCard : Claim7 := { stood := { row := shapePowersUptoRow, standIns := [], harness := (true, "e759d61420adaac2f1e1a79954822b20651ee055e45f8692778ce45609299f73"), looks := false }, kinds := [], alts := [], laidByText := true, laidKinds := [.data, .data], laidTests := true, laidLooks := .later }
def ShapePowersUptoCardSaid : Prop := Claim7.holds Tryd.pinned (.plain (OpenSpec.upto shapePowersSpec)) shapePowersUptoCard

/-- THE SECOND FORM's CARD OF 'mesnelaw01.ShapeLess'. -/
def shapeLessUptoCard : Claim7 := { stood := { row := shapeLessUptoRow, standIns := [], harness := (true, "e759d61420adaac2f1e1a79954822b20651ee055e45f8692778ce45609299f73"), looks := false }, kinds := [], alts := [], laidByText := true, laidKinds := [.data, .data], laidTests := true, laidLooks := .later }
def ShapeLessUptoCardSaid : Prop := Claim7.holds Tryd.pinned (.plain (OpenSpec.upto shapeLessSpec)) shapeLessUptoCard
end Rows
end Go.Proofs.YtbopjnpohenkhaaDoor
