/-
  Where a slice's operations lie.
-/
import Derived.Test.YtlhecliamhjobaaWbA
namespace Go.Proofs.Ytlhecliamhjobaa
open Go Go.RowKit

def OpsP (w : World) (p : Option Addr) (l : List Wo) : Prop := ∀ i x, l[i]? = some x → ∃ g off, p = some ⟨g, off, none⟩ ∧ g < w.heap.size ∧ w.rangeAt g (off + i * 10) (oc x)
theorem OpsP.step {w w' : World} {p : Option Addr} {l : List Wo} (h : OpsP w p l) (hb : Below w.heap.size w w') : OpsP w' p l := fun i x hx => by
  obtain ⟨g, off, e, hg, hr⟩ := h i x hx
  exact ⟨g, off, e, Nat.lt_of_lt_of_le hg hb.size, fun j v hv => (hb.cell (p := ⟨g, off + i * 10 + j, none⟩) hg).trans (hr j v hv)⟩

end Go.Proofs.Ytlhecliamhjobaa
