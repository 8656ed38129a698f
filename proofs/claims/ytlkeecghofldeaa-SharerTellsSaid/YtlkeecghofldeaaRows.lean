/-
  No cell of these rows narrows 'for every input' (looked for: loops, veiled, ifaces, maps, wideKeys, modest, calm, conditions, laid).
  DERIVED. THE GIVEN ROWS OF THIS SEAT. 4 by the template 'for every input the law returns true; each argument reads behind the call as it read before'; 0 by the template 'total and deterministic' (their statements: YtlkeecghofldeaaTotals.lean).
  GIVEN WITH THE SEED: the statements are not yours to turn. If you find one false, say at which input.
  Laid BY PROGRAM, IN A SANDBOX (cutbox-rows.mjs): the forced cells as the released guide's own fill.sh prints them over the translation e2311cbb0a5e812b… (all of the seat's roots in one cut). By AI agents, Wed Nov 11 2026. No macro, syntax, notation, axiom, sorry.
-/
import Derived.Test.YtlkeecghofldeaaChecked
import GoSem.Claim
import GoSem.ClaimJoined
import GoSem.ClaimMapViews
import Derived.JoinedTies
import Derived.KernelRfl
namespace Go.Proofs.Ytlkeecghofldeaa
/- THE CELL 'sum', in the pinned program and in every row, IS THE sha256 OF THE DUMP (.gsa) THAT YtlkeecghofldeaaProg.lean LOADS. Nothing in Lean hashes anything: it is a label: what it is worth is what the hold of that sum in a sandbox is worth. -/
noncomputable def Try.pinned : Pinned := { name := "ytlkeecghofldeaa", sum := "e2311cbb0a5e812bde426366106df9199897c8bce66a34149972654567778593", checked := Try.checked }
namespace Rows
def none {H : Type} : Left H := { results := [], args := [] }

/-- 'mesnelaw08.SharerTells': WHATEVER THE INPUT: true; the input reads as it did. -/
def sharerTellsSpec : ChangeSpec := { name := "sharerTells", fn := fun _ => fun
  | [d1, d2, d3, d4, d5] => { results := [.lit (.bool true)], args := [d1, d2, d3, d4, d5] }
  | _ => none }
def sharerTellsRow : OpenClaim := { program := "ytlkeecghofldeaa", sum := "e2311cbb0a5e812bde426366106df9199897c8bce66a34149972654567778593", func := "mesne/mesnelaw08.SharerTells", spec := "sharerTells", inPlace := ["slices.overlaps[int]"], apart := false }
def SharerTellsSaid : Prop := sharerTellsRow.holds Try.pinned (OpenSpec.ofChange sharerTellsSpec)

/-- ITS FALSE NEIGHBOUR: 'it returns false'. Refute it at one input. -/
def sharerTellsWrong : ChangeSpec := { name := "sharerTells", fn := fun _ => fun
  | [d1, d2, d3, d4, d5] => { results := [.lit (.bool false)], args := [d1, d2, d3, d4, d5] }
  | _ => none }
def SharerTellsWrongFalsely : Prop := sharerTellsRow.holds Try.pinned (OpenSpec.ofChange sharerTellsWrong)

/-- 'mesnelaw08.SharerHas': WHATEVER THE INPUT: true; the input reads as it did. -/
def sharerHasSpec : ChangeSpec := { name := "sharerHas", fn := fun _ => fun
  | [d1, d2, d3] => { results := [.lit (.bool true)], args := [d1, d2, d3] }
  | _ => none }
def sharerHasRow : OpenClaim := { program := "ytlkeecghofldeaa", sum := "e2311cbb0a5e812bde426366106df9199897c8bce66a34149972654567778593", func := "mesne/mesnelaw08.SharerHas", spec := "sharerHas", inPlace := ["slices.overlaps[int]"], apart := false }
def SharerHasSaid : Prop := sharerHasRow.holds Try.pinned (OpenSpec.ofChange sharerHasSpec)

/-- ITS FALSE NEIGHBOUR: 'it returns false'. Refute it at one input. -/
def sharerHasWrong : ChangeSpec := { name := "sharerHas", fn := fun _ => fun
  | [d1, d2, d3] => { results := [.lit (.bool false)], args := [d1, d2, d3] }
  | _ => none }
def SharerHasWrongFalsely : Prop := sharerHasRow.holds Try.pinned (OpenSpec.ofChange sharerHasWrong)

/-- 'mesnelaw08.SharerBut': WHATEVER THE INPUT: true; the input reads as it did. -/
def sharerButSpec : ChangeSpec := { name := "sharerBut", fn := fun _ => fun
  | [d1, d2] => { results := [.lit (.bool true)], args := [d1, d2] }
  | _ => none }
def sharerButRow : OpenClaim := { program := "ytlkeecghofldeaa", sum := "e2311cbb0a5e812bde426366106df9199897c8bce66a34149972654567778593", func := "mesne/mesnelaw08.SharerBut", spec := "sharerBut", inPlace := ["slices.overlaps[int]"], apart := false }
def SharerButSaid : Prop := sharerButRow.holds Try.pinned (OpenSpec.ofChange sharerButSpec)

/-- ITS FALSE NEIGHBOUR: 'it returns false'. Refute it at one input. -/
def sharerButWrong : ChangeSpec := { name := "sharerBut", fn := fun _ => fun
  | [d1, d2] => { results := [.lit (.bool false)], args := [d1, d2] }
  | _ => none }
def SharerButWrongFalsely : Prop := sharerButRow.holds Try.pinned (OpenSpec.ofChange sharerButWrong)

/-- 'mesnelaw08.SharerOrder': WHATEVER THE INPUT: true; the input reads as it did. -/
def sharerOrderSpec : ChangeSpec := { name := "sharerOrder", fn := fun _ => fun
  | [d1, d2, d3, d4] => { results := [.lit (.bool true)], args := [d1, d2, d3, d4] }
  | _ => none }
def sharerOrderRow : OpenClaim := { program := "ytlkeecghofldeaa", sum := "e2311cbb0a5e812bde426366106df9199897c8bce66a34149972654567778593", func := "mesne/mesnelaw08.SharerOrder", spec := "sharerOrder", inPlace := ["slices.overlaps[int]"], apart := false }
def SharerOrderSaid : Prop := sharerOrderRow.holds Try.pinned (OpenSpec.ofChange sharerOrderSpec)

/-- ITS FALSE NEIGHBOUR: 'it returns false'. Refute it at one input. -/
def sharerOrderWrong : ChangeSpec := { name := "sharerOrder", fn := fun _ => fun
  | [d1, d2, d3, d4] => { results := [.lit (.bool false)], args := [d1, d2, d3, d4] }
  | _ => none }
def SharerOrderWrongFalsely : Prop := sharerOrderRow.holds Try.pinned (OpenSpec.ofChange sharerOrderWrong)

/- THE SECOND FORM. 'bulk': how many values and letters a reading holds, each counted each time it is reached (what is shared counts as often as it is met; a slice's spare places count too). A statement '..UptoSaid' is the law's where the arguments, and the package variables that the reading takes, are together of bulk at most 1048576: NARROWER than '..Said'. Prove '..Said' where nothing that the law and all that it calls make is longer than what came in: it says more and counts as full. Else prove '..UptoSaid'. A law counts once. -/
mutual
def uptoBulk {H : Type} : DataW H → Nat
  | .lit (.string bytes) => bytes.length + 1
  | .lit _ => 1
  | .nil => 1
  | .ptr d => uptoBulk d + 1
  | .slice elems spare => uptoBulkAll elems + uptoBulkAll spare + 1
  | .agg parts => uptoBulkAll parts + 1
  | .iface _ d => uptoBulk d + 1
  | .map entries => uptoBulkEntries entries + 1
  | .held _ => 1
def uptoBulkAll {H : Type} : List (DataW H) → Nat
  | [] => 0
  | d :: r => uptoBulk d + uptoBulkAll r
def uptoBulkEntries {H : Type} : List (Lit × DataW H) → Nat
  | [] => 0
  | x :: r => uptoBulkEntry x + uptoBulkEntries r
def uptoBulkEntry {H : Type} : Lit × DataW H → Nat
  | (.string bytes, d) => bytes.length + uptoBulk d + 1
  | (_, d) => uptoBulk d + 1
 end
def uptoSmall : (H : Type) → List (DataW H) → Bool := fun _ ds => decide (uptoBulkAll ds ≤ 1048576)
def OpenSpec.upto (s : _root_.Go.ChangeSpec) : _root_.Go.OpenSpec := { _root_.Go.OpenSpec.ofChange s with cond := some uptoSmall }

/-- 'mesnelaw08.SharerTells', WHERE WHAT IT READS IS OF BULK AT MOST 1048576: true; the input reads as it did. -/
def sharerTellsUptoRow : OpenClaim := { program := "ytlkeecghofldeaa", sum := "e2311cbb0a5e812bde426366106df9199897c8bce66a34149972654567778593", func := "mesne/mesnelaw08.SharerTells", spec := "sharerTells", inPlace := ["slices.overlaps[int]"], apart := false, narrowed := true }
def SharerTellsUptoSaid : Prop := sharerTellsUptoRow.holds Try.pinned (OpenSpec.upto sharerTellsSpec)

/-- 'mesnelaw08.SharerHas', WHERE WHAT IT READS IS OF BULK AT MOST 1048576: true; the input reads as it did. -/
def sharerHasUptoRow : OpenClaim := { program := "ytlkeecghofldeaa", sum := "e2311cbb0a5e812bde426366106df9199897c8bce66a34149972654567778593", func := "mesne/mesnelaw08.SharerHas", spec := "sharerHas", inPlace := ["slices.overlaps[int]"], apart := false, narrowed := true }
def SharerHasUptoSaid : Prop := sharerHasUptoRow.holds Try.pinned (OpenSpec.upto sharerHasSpec)

/-- 'mesnelaw08.SharerBut', WHERE WHAT IT READS IS OF BULK AT MOST 1048576: true; the input reads as it did. -/
def sharerButUptoRow : OpenClaim := { program := "ytlkeecghofldeaa", sum := "e2311cbb0a5e812bde426366106df9199897c8bce66a34149972654567778593", func := "mesne/mesnelaw08.SharerBut", spec := "sharerBut", inPlace := ["slices.overlaps[int]"], apart := false, narrowed := true }
def SharerButUptoSaid : Prop := sharerButUptoRow.holds Try.pinned (OpenSpec.upto sharerButSpec)

/-- 'mesnelaw08.SharerOrder', WHERE WHAT IT READS IS OF BULK AT MOST 1048576: true; the input reads as it did. -/
def sharerOrderUptoRow : OpenClaim := { program := "ytlkeecghofldeaa", sum := "e2311cbb0a5e812bde426366106df9199897c8bce66a34149972654567778593", func := "mesne/mesnelaw08.SharerOrder", spec := "sharerOrder", inPlace := ["slices.overlaps[int]"], apart := false, narrowed := true }
def SharerOrderUptoSaid : Prop := sharerOrderUptoRow.holds Try.pinned (OpenSpec.upto sharerOrderSpec)

end Rows
end Go.Proofs.Ytlkeecghofldeaa
