/-
  Structs that are handed back beside an error's number; blocks that a call has made and filled.
-/
import Derived.Test.YtjnbpohjdgnknaaDoorScE
import Derived.Laws.Rows
namespace Go.Proofs.YtjnbpohjdgnknaaDoor
open Go Go.RowKit

theorem results_cell_two {P : Program} {fn : Func} {p q : Tmp} {ty : TypeId} (h : fn.results = #[.cell p ty, .tmp q]) (tmps : Array Value) (w : World) (g : Nat) (t : TypeId) (cs : Array Value) (fr : Nat × Nat) (d : TypeDesc)
    (hp : tmps.getD p undef = .pointer (some ⟨g, 0, none⟩)) (hg : w.heap[g]? = some (.cells cs t fr))
    (hu : P.underlying ty = some d) (hd : (match d with | .struct _ | .array _ _ => true | _ => false) = true) (hi : (P.info? ty).map (·.size) = some cs.size) :
    (results fn tmps).run P w = .ok (.tuple #[.agg cs, tmps.getD q undef]) w := by
  have hp' : tmps[p]?.getD undef = .pointer (some ⟨g, 0, none⟩) := by simpa using hp
  simp [results, h, hp', asAddr, run_loadVar_row w g t ty cs fr d hg hu hd hi]

theorem Kept.high {b base : Nat} {w w1 w2 : World} (h : Kept b base w w1) (hb : Below base w1 w2) (hl : b ≤ base) : Kept b base w w2 :=
  h.trans ⟨hb.mono hl, fun c hc _ => hb.block c hc⟩
theorem Kept.drew {b base : Nat} {w w1 : World} (h : Kept b base w w1) : Kept b base w w1.drew := ⟨h.below.drew, h.other⟩
theorem heap_old {w : World} {o : Obj} {k : Nat} (h : k < w.heap.size) : (w.alloc o).heap[k]? = w.heap[k]? := Below.heap_alloc _ _ _ h

/-- Behind the making of a machine's sizes, and a call that only made memory: the answer's block, the sizes' own one, and what is still to be handed out. -/
structure EndZ (w w1 w3 : World) (b1 b2 : Nat) (t : TypeId) (L0 L : Array Value) (q : List UInt8) : Prop where
  box : w3.heap[w.heap.size]? = some (.cells L0 t (0, 0))
  cell : ∀ o, w3.cell? ⟨w1.heap.size, o, none⟩ = L[o]?
  kept : Kept b2 w.heap.size w w3
  next : Nx w3 b1 b2 q
theorem endZ {w w1 w3 : World} {b1 b2 : Nat} {t t' : TypeId} {L0 L : Array Value} {q : List UInt8} (ho : Only b2 (w.alloc (.cells L0 t)) w1) (hb2 : b2 < w.heap.size) (hn : Nx w1 b1 b2 q)
    (hb : Below (w1.alloc (.cells L t')).drew.heap.size (w1.alloc (.cells L t')).drew w3) : EndZ w w1 w3 b1 b2 t L0 L q := by
  have hs : w1.heap.size = w.heap.size + 1 := by rw [ho.size]; simp
  have hsz : (w1.alloc (.cells L t')).drew.heap.size = w1.heap.size + 1 := by simp
  have hbb : Below (w1.heap.size + 1) (w1.alloc (.cells L t')).drew w3 := hsz ▸ hb
  have hb1 : Below w1.heap.size w1 w3 := (((Below.refl w1.heap.size w1).alloc (Nat.le_refl _) (.cells L t')).drew).trans (hbb.mono (by omega))
  refine ⟨?_, ?_, ?_, hn.kept hb1⟩
  · exact (hb1.block w.heap.size (by omega)).trans ((ho.other w.heap.size (by omega)).trans (heap_alloc_new w _))
  · intro o
    exact (hbb.cell (p := ⟨w1.heap.size, o, none⟩) (by simp)).trans (World.cell?_alloc_mark w1 L t' (0, 0) o)
  · have k0 : Kept b2 w.heap.size w (w.alloc (.cells L0 t)) := ⟨(Below.refl _ _).alloc (by omega) _, fun c hc _ => heap_old hc⟩
    exact (k0.trans (ho.kept _)).step hb1 (by omega) (by omega)

end Go.Proofs.YtjnbpohjdgnknaaDoor
