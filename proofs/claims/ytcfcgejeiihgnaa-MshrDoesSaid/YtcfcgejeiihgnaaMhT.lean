/-
  Where a slice's operations lie.
-/
import Derived.Test.YtcfcgejeiihgnaaMhA
namespace Go.Proofs.Ytcfcgejeiihgnaa
open Go Go.RowKit

def OpsM (w : World) (p : Option Addr) (l : List Mo) : Prop := ∀ i x, l[i]? = some x → ∃ g off, p = some ⟨g, off, none⟩ ∧ g < w.heap.size ∧ w.rangeAt g (off + i * 12) (oc x)
theorem OpsM.step {w w' : World} {p : Option Addr} {l : List Mo} (h : OpsM w p l) (hb : Below w.heap.size w w') : OpsM w' p l := fun i x hx => by
  obtain ⟨g, off, e, hg, hr⟩ := h i x hx
  exact ⟨g, off, e, Nat.lt_of_lt_of_le hg hb.size, fun j v hv => (hb.cell (p := ⟨g, off + i * 12 + j, none⟩) hg).trans (hr j v hv)⟩

end Go.Proofs.Ytcfcgejeiihgnaa
