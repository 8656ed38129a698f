/-
  DERIVED. GIVEN WITH THE SEED: THE CARDS: each row of YtlfhkjjjocmpbaaGreatDoorRows.lean that lists a variable, with what it lists TIED to the program's text (the seventh form; the later family's looks); each row that meets fmt, with fmt's text TOLD by the authors' own Lean function (tested against real Go, not proved from fmt's source: count such statements apart). THE CARD IS WHAT COUNTS. Prove the row's statement (the work); the ties are given (YtlfhkjjjocmpbaaGreatDoorTie.lean); close each card by the builder's one call (the guide's Derived/Test/ToyasCard.lean, 'card_holds'). Laid BY PROGRAM, IN A SANDBOX (cutbox-door.mjs). By AI agents, Wed Nov 11 2026. No macro, syntax, notation, axiom, sorry.
-/
import Derived.Test.YtlfhkjjjocmpbaaGreatDoorRows
import GoSem.ClaimSeven
namespace Go.Proofs.YtlfhkjjjocmpbaaGreatDoor
namespace Rows

/-- THE TIED CARD OF 'mesnelaw14.CacheDoes'. -/
def cacheDoesCard : Claim7 := { stood := { row := cacheDoesRow, standIns := [], harness := (true, "0bc026cc308464a1be4493f808ec6f3af3278c62fd53674f63737a0e4817d09b"), looks := true }, kinds := [], alts := [], laidByText := true, laidKinds := [.data, .data], laidTests := true, laidLooks := .later }
def CacheDoesCardSaid : Prop := Claim7.holds Tryz.pinned (.plain (OpenSpec.ofChange cacheDoesSpec)) cacheDoesCard

/-- THE TIED CARD OF 'mesnelaw14.CacheLocks'. -/
def cacheLocksCard : Claim7 := { stood := { row := cacheLocksRow, standIns := [], harness := (true, "0bc026cc308464a1be4493f808ec6f3af3278c62fd53674f63737a0e4817d09b"), looks := true }, kinds := [], alts := [], laidByText := true, laidKinds := [.data, .data], laidTests := true, laidLooks := .later }
def CacheLocksCardSaid : Prop := Claim7.holds Tryz.pinned (.plain (OpenSpec.ofChange cacheLocksSpec)) cacheLocksCard

/-- THE TIED CARD OF 'mesnelaw14.CacheWrites'. -/
def cacheWritesCard : Claim7 := { stood := { row := cacheWritesRow, standIns := [], harness := (true, "0bc026cc308464a1be4493f808ec6f3af3278c62fd53674f63737a0e4817d09b"), looks := true }, kinds := [], alts := [], laidByText := true, laidKinds := [.data, .data], laidTests := true, laidLooks := .later }
def CacheWritesCardSaid : Prop := Claim7.holds Tryz.pinned (.plain (OpenSpec.ofChange cacheWritesSpec)) cacheWritesCard

/-- THE TIED CARD OF 'mesnelaw14.CacheFills'. -/
def cacheFillsCard : Claim7 := { stood := { row := cacheFillsRow, standIns := [], harness := (true, "0bc026cc308464a1be4493f808ec6f3af3278c62fd53674f63737a0e4817d09b"), looks := true }, kinds := [], alts := [], laidByText := true, laidKinds := [.data, .data], laidTests := true, laidLooks := .later }
def CacheFillsCardSaid : Prop := Claim7.holds Tryz.pinned (.plain (OpenSpec.ofChange cacheFillsSpec)) cacheFillsCard

/-- THE TIED CARD OF 'mesnelaw14.CacheLets'. -/
def cacheLetsCard : Claim7 := { stood := { row := cacheLetsRow, standIns := [], harness := (true, "0bc026cc308464a1be4493f808ec6f3af3278c62fd53674f63737a0e4817d09b"), looks := true }, kinds := [], alts := [], laidByText := true, laidKinds := [.data, .data], laidTests := true, laidLooks := .later }
def CacheLetsCardSaid : Prop := Claim7.holds Tryz.pinned (.plain (OpenSpec.ofChange cacheLetsSpec)) cacheLetsCard

/-- THE SECOND FORM's CARD OF 'mesnelaw14.CacheDoes'. -/
def cacheDoesUptoCard : Claim7 := { stood := { row := cacheDoesUptoRow, standIns := [], harness := (true, "0bc026cc308464a1be4493f808ec6f3af3278c62fd53674f63737a0e4817d09b"), looks := true }, kinds := [], alts := [], laidByText := true, laidKinds := [.data, .data], laidTests := true, laidLooks := .later }
def CacheDoesUptoCardSaid : Prop := Claim7.holds Tryz.pinned (.plain (OpenSpec.upto cacheDoesSpec)) cacheDoesUptoCard

/-- THE SECOND FORM's CARD OF 'mesnelaw14.CacheLocks'. -/
def cacheLocksUptoCard : Claim7 := { stood := { row := cacheLocksUptoRow, standIns := [], harness := (true, "0bc026cc308464a1be4493f808ec6f3af3278c62fd53674f63737a0e4817d09b"), looks := true }, kinds := [], alts := [], laidByText := true, laidKinds := [.data, .data], laidTests := true, laidLooks := .later }
def CacheLocksUptoCardSaid : Prop := Claim7.holds Tryz.pinned (.plain (OpenSpec.upto cacheLocksSpec)) cacheLocksUptoCard

/-- THE SECOND FORM's CARD OF 'mesnelaw14.CacheWrites'. -/
def cacheWritesUptoCard : Claim7 := { stood := { row := cacheWritesUptoRow, standIns := [], harness := (true, "0bc026cc308464a1be4493f808ec6f3af3278c62fd53674f63737a0e4817d09b"), looks := true }, kinds := [], alts := [], laidByText := true, laidKinds := [.data, .data], laidTests := true, laidLooks := .later }
def CacheWritesUptoCardSaid : Prop := Claim7.holds Tryz.pinned (.plain (OpenSpec.upto cacheWritesSpec)) cacheWritesUptoCard

/-- THE SECOND FORM's CARD OF 'mesnelaw14.CacheFills'. -/
def cacheFillsUptoCard : Claim7 := { stood := { row := cacheFillsUptoRow, standIns := [], harness := (true, "0bc026cc308464a1be4493f808ec6f3af3278c62fd53674f63737a0e4817d09b"), looks := true }, kinds := [], alts := [], laidByText := true, laidKinds := [.data, .data], laidTests := true, laidLooks := .later }
def CacheFillsUptoCardSaid : Prop := Claim7.holds Tryz.pinned (.plain (OpenSpec.upto cacheFillsSpec)) cacheFillsUptoCard

/-- THE SECOND FORM's CARD OF 'mesnelaw14.CacheLets'. -/
def cacheLetsUptoCard : Claim7 := { stood := { row := cacheLetsUptoRow, standIns := [], harness := (true, "0bc026cc308464a1be4493f808ec6f3af3278c62fd53674f63737a0e4817d09b"), looks := true }, kinds := [], alts := [], laidByText := true, laidKinds := [.data, .data], laidTests := true, laidLooks := .later }
def CacheLetsUptoCardSaid : Prop := Claim7.holds Tryz.pinned (.plain (OpenSpec.upto cacheLetsSpec)) cacheLetsUptoCard
end Rows
end Go.Proofs.YtlfhkjjjocmpbaaGreatDoor
