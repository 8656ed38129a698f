/-
  A slice of operations that comes in, with the bounds of their numbers.
-/
import Derived.Test.YtnimaogdjfenpaaBgOpen
namespace Go.Proofs.Ytnimaogdjfenpaa
open Go.ChangeShapes Go.WideShapes Go.ChangeAt Go.RowKit Go.Deep

/-- An operation of a law, and that its number is an int's. -/
structure Op3 where
  d : Int
  n : Int
  h : (Lit.int .i64 n).wf = true
def ops3 (x : Op3) : List Value := [.int .i64 x.d, .int .i64 x.n]
theorem ops3_len (x : Op3) : (ops3 x).length = 2 := rfl
theorem int_cellW {H : Type} {enc : TypeId × Value → H} {W : World} {m : Nat} {v : Value} {l : List Value} {y : DataW H × List MemPlace} (hl : l.take 1 = [v])
    (h : DataW.trod enc Try.prog W 0 (fun _ => true) true m 3 (l.take (Try.prog.cellsOf 3)) = some y) : ∃ n : Int, v = .int .i64 n ∧ (Lit.int .i64 n).wf = true := by
  rw [cells3, hl] at h
  obtain ⟨n, e, _, hw⟩ := DataW.trod_int Try.underlying3 h
  simp at e
  exact ⟨n, e, hw⟩
/-- Where a slice's operations lie. -/
def OpsInW (w : World) (p : Option Addr) (l : List Op3) : Prop :=
  ∀ i (h : i < l.length), ∃ g off, p = some ⟨g, off, none⟩ ∧ g < w.heap.size ∧ w.cell? ⟨g, off + i * 2, none⟩ = some (.int .i64 l[i].d) ∧ w.cell? ⟨g, off + i * 2 + 1, none⟩ = some (.int .i64 l[i].n)
theorem OpsInW.step {w w' : World} {p : Option Addr} {l : List Op3} (h : OpsInW w p l) (hb : Below w.heap.size w w') : OpsInW w' p l := fun i hi => by
  obtain ⟨g, off, e, hg, h0, h1⟩ := h i hi
  exact ⟨g, off, e, Nat.lt_of_lt_of_le hg hb.size, (hb.cell (p := ⟨g, off + i * 2, none⟩) hg).trans h0, (hb.cell (p := ⟨g, off + i * 2 + 1, none⟩) hg).trans h1⟩
theorem open_ops3 {H : Type} {enc : TypeId × Value → H} {W : World} {base : Nat} {v : Value} {d : DataW H} {p : List MemPlace}
    (hv : Value.okWide Try.prog W .any base 22 v) (h : DataW.Trod enc Try.prog W 0 (fun _ => true) true 22 v d p) : ∃ (q : Option Addr) (cap : Nat) (l : List Op3), v = .slice q l.length cap ∧ OpsInW W q l ∧ l.length ≤ 9223372036854775807 := by
  obtain ⟨q, cap, l, e, hr, hl⟩ := open_rows ops3 2 (by decide) ops3_len Try.underlying22 cellsOp2 (fun m cs y hc hy => by
    match cs, hc with
    | [c0, c1], _ =>
      obtain ⟨xs, n', _, _, _, hxl, hg⟩ := DataW.trod_struct Try.underlying32 hy
      match xs, hxl with
      | [y0, y1], _ =>
        obtain ⟨n0, rfl, _⟩ := int_cellW rfl (hg 0 _ rfl)
        obtain ⟨n1, rfl, h1⟩ := int_cellW rfl (hg 1 _ rfl)
        exact ⟨⟨n0, n1, h1⟩, rfl⟩) hv h
  refine ⟨q, cap, l, e, fun j hj => ?_, hl⟩
  obtain ⟨g, off, e, hg, hc⟩ := hr j hj
  exact ⟨g, off, e, hg, hc 0 _ rfl, hc 1 _ rfl⟩

end Go.Proofs.Ytnimaogdjfenpaa
