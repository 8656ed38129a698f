/-
  Steps, in plain words: what they leave of a memory's words; a slice of steps.
-/
import Derived.Test.YticfdkopephkkaaDoorMeH
namespace Go.Proofs.YticfdkopephkkaaDoor
open Go Go.RowKit

/-- A step. -/
structure Stp where
  d : Int
  n : Int
  x : Op
  w : Wd
abbrev stcells (s : Stp) : Array Value := #[.int .i64 s.d, .int .i64 s.n, .int .i64 s.x.k, .int .i64 s.x.a, .int .i64 s.x.v, .int .i64 s.w.a0, .int .i64 s.w.a1, .int .i64 s.w.a2, .int .i64 s.w.a3, .int .i64 s.w.a4, .int .i64 s.w.a5, .int .i64 s.w.a6, .int .i64 s.w.a7]
def stc (s : Stp) : List Value := (stcells s).toList
theorem stc_len (s : Stp) : (stc s).length = 13 := rfl
/-- Where a slice's steps lie. -/
def StepsA (w : World) (p : Option Addr) (l : List Stp) : Prop := ∀ i x, l[i]? = some x → ∃ g off, p = some ⟨g, off, none⟩ ∧ g < w.heap.size ∧ w.rangeAt g (off + i * 13) (stc x)
theorem StepsA.step {w w' : World} {p : Option Addr} {l : List Stp} (h : StepsA w p l) (hb : Below w.heap.size w w') : StepsA w' p l := fun i x hx => by
  obtain ⟨g, off, e, hg, hr⟩ := h i x hx
  exact ⟨g, off, e, Nat.lt_of_lt_of_le hg hb.size, fun j v hv => (hb.cell (p := ⟨g, off + i * 13 + j, none⟩) hg).trans (hr j v hv)⟩
theorem Own.drop {w wr : World} {b g : Nat} {c : Cfg} {L : List Int} {bs : List (Nat × Obj)} {p : Nat × Obj} (h : Own w b g c L (p :: bs) wr) : Own w b g c L bs wr := ⟨h.mm, h.bb, h.gb, fun q hq => h.bx q (List.mem_cons_of_mem _ hq), h.bl, h.tb⟩
theorem Two.drop {w wr : World} {b g b2 g2 : Nat} {c : Cfg} {L L2 : List Int} {bs : List (Nat × Obj)} {p : Nat × Obj} (h : Two w b g b2 g2 c L L2 (p :: bs) wr) : Two w b g b2 g2 c L L2 bs wr := ⟨h.l.drop, h.r.drop, h.n1, h.n2, h.n3⟩
abbrev opcells (x : Op) : Array Value := #[.int .i64 x.k, .int .i64 x.a, .int .i64 x.v]

end Go.Proofs.YticfdkopephkkaaDoor
