/-
  A slice of operations that comes in, each of whose lines is an int's.
-/
import Derived.Test.YtlhecliamhjobaaWbOpen
import Derived.Test.YtlhecliamhjobaaWbTw
namespace Go.Proofs.Ytlhecliamhjobaa
open Go.ChangeShapes Go.WideShapes Go.ChangeAt Go.RowKit Go.Deep

theorem int_cellW {H : Type} {enc : TypeId × Value → H} {W : World} {m : Nat} {v : Value} {l : List Value} {y : DataW H × List MemPlace} (hl : l.take 1 = [v])
    (h : DataW.trod enc Try.prog W 0 (fun _ => true) true m 3 (l.take (Try.prog.cellsOf 3)) = some y) : ∃ n : Int, v = .int .i64 n ∧ (Lit.int .i64 n).wf = true := by
  rw [cells3, hl] at h
  obtain ⟨n, e, _, hw⟩ := DataW.trod_int Try.underlying3 h
  simp at e
  exact ⟨n, e, hw⟩
/-- An operation whose line is an int's. -/
abbrev WoW := { x : Wo // (Lit.int .i64 x.ln).wf = true }
set_option maxRecDepth 100000 in
theorem op_cellsW {H : Type} {enc : TypeId × Value → H} {W : World} {m : Nat} {l : List Value} {y : DataW H × List MemPlace} (hl : l.length = 10)
    (hy : DataW.trod enc Try.prog W 0 (fun _ => true) true m 34 l = some y) : ∃ x : WoW, l = oc x.1 := by
  match l, hl with
  | [c0, c1, c2, c3, c4, c5, c6, c7, c8, c9], _ =>
    obtain ⟨xs, n', _, _, _, hxl, hg⟩ := DataW.trod_struct Try.underlying34 hy
    match xs, hxl with
    | [y0, y1, y2], _ =>
      obtain ⟨n0, rfl, _⟩ := int_cell rfl (hg 0 _ rfl)
      obtain ⟨n1, rfl, w1⟩ := int_cellW rfl (hg 1 _ rfl)
      have hr : DataW.trod enc Try.prog W 0 (fun _ => true) true n' 32 ([c2, c3, c4, c5, c6, c7, c8, c9].take (Try.prog.cellsOf 32)) = some y2 := hg 2 _ rfl
      rw [cells35] at hr
      obtain ⟨d, hd⟩ := words_cells rfl hr
      simp at hd
      obtain ⟨rfl, rfl, rfl, rfl, rfl, rfl, rfl, rfl⟩ := hd
      exact ⟨⟨⟨n0, n1, d⟩, w1⟩, rfl⟩
set_option maxRecDepth 100000 in
theorem open_opsW {H : Type} {enc : TypeId × Value → H} {W : World} {base : Nat} {v : Value} {d : DataW H} {p : List MemPlace}
    (hv : Value.okWide Try.prog W .any base 22 v) (h : DataW.Trod enc Try.prog W 0 (fun _ => true) true 22 v d p) : ∃ (q : Option Addr) (cap : Nat) (l : List Wo), v = .slice q l.length cap ∧ OpsW W q l ∧ l.length ≤ 9223372036854775807 := by
  obtain ⟨q, cap, l, e, hr, hl⟩ := open_rows (fun x : WoW => oc x.1) 10 (by decide) (fun x => oc_len x.1) Try.underlying22 cellsOp (fun m cs y hc hy => op_cellsW hc hy) hv h
  refine ⟨q, cap, l.map Subtype.val, by rw [e, List.length_map], ⟨fun i x hx => ?_, fun x hx => ?_⟩, by rw [List.length_map]; exact hl⟩
  · rw [List.getElem?_map] at hx
    obtain ⟨y, hy, rfl⟩ := Option.map_eq_some_iff.1 hx
    obtain ⟨hi, rfl⟩ := List.getElem?_eq_some_iff.1 hy
    obtain ⟨g, off, e, hg, hc⟩ := hr i hi
    exact ⟨g, off, e, hg, fun j u hu => by rw [Nat.add_assoc]; exact hc j u hu⟩
  · obtain ⟨y, _, rfl⟩ := List.mem_map.1 hx
    exact y.2

end Go.Proofs.Ytlhecliamhjobaa
