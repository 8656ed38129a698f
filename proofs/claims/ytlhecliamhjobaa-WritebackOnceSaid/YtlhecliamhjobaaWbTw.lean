/-
  Where a slice's operations lie, each of whose lines is an int's.
-/
import Derived.Test.YtlhecliamhjobaaWbT
namespace Go.Proofs.Ytlhecliamhjobaa
open Go Go.RowKit

def OpsW (w : World) (p : Option Addr) (l : List Wo) : Prop := OpsP w p l ∧ ∀ x ∈ l, (Lit.int .i64 x.ln).wf = true

end Go.Proofs.Ytlhecliamhjobaa
