/-
  Where a slice's operations lie, each of whose lines is an int's.
-/
import Derived.Test.YtcfcgejeiihgnaaMhT
namespace Go.Proofs.Ytcfcgejeiihgnaa
open Go Go.RowKit

def OpsW (w : World) (p : Option Addr) (l : List Mo) : Prop := OpsM w p l ∧ ∀ x ∈ l, (Lit.int .i64 x.ln).wf = true

end Go.Proofs.Ytcfcgejeiihgnaa
