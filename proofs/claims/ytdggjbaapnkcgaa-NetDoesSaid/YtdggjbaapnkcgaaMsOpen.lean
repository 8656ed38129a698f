/-
  A message that comes in by value is fifteen numbers.
-/
import Derived.Test.YtdggjbaapnkcgaaOpen
import Derived.Test.YtdggjbaapnkcgaaMsA
namespace Go.Proofs.Ytdggjbaapnkcgaa
open Go.ChangeShapes Go.WideShapes Go.ChangeAt Go.RowKit

theorem cells25 : Try.prog.cellsOf 35 = 8 := by kernel_rfl
theorem cells28 : Try.prog.cellsOf 37 = 15 := by kernel_rfl

set_option maxRecDepth 100000 in
theorem open_msg {H : Type} {enc : TypeId × Value → H} {W : World} {base : Nat} {v : Value} {d : DataW H} {p : List MemPlace} (hv : Value.okWide Try.prog W .any base 37 v)
    (h : DataW.Trod enc Try.prog W 0 (fun _ => true) true 37 v d p) : ∃ m : Msg, v = mv m := by
  obtain ⟨cs, rfl, hsz⟩ := okWide_struct Try.underlying37 hv
  obtain ⟨l⟩ := cs
  match l, hsz.trans cells28 with
  | [c0, c1, c2, c3, c4, c5, c6, c7, c8, c9, c10, c11, c12, c13, c14], _ =>
    obtain ⟨fuel, hf⟩ := h
    obtain ⟨xs, n, _, _, _, hlen, hg⟩ := DataW.trod_struct Try.underlying37 hf
    match xs, hlen with
    | [y0, y1, y2, y3, y4, y5, y6, y7], _ =>
      obtain ⟨n0, rfl, _⟩ := int_cell rfl (hg 0 _ rfl)
      obtain ⟨n1, rfl, _⟩ := int_cell rfl (hg 1 _ rfl)
      obtain ⟨n2, rfl, _⟩ := int_cell rfl (hg 2 _ rfl)
      obtain ⟨n3, rfl, _⟩ := int_cell rfl (hg 3 _ rfl)
      obtain ⟨n4, rfl, _⟩ := int_cell rfl (hg 4 _ rfl)
      obtain ⟨n5, rfl, _⟩ := int_cell rfl (hg 5 _ rfl)
      obtain ⟨n6, rfl, _⟩ := int_cell rfl (hg 6 _ rfl)
      have hr : DataW.trod enc Try.prog W 0 (fun _ => true) true n 35 ([c7, c8, c9, c10, c11, c12, c13, c14].take (Try.prog.cellsOf 35)) = some y7 := hg 7 _ rfl
      rw [cells25] at hr
      obtain ⟨zs, k, _, _, _, hzl, hel⟩ := DataW.trod_array Try.underlying35 hr
      match zs, hzl with
      | [z0, z1, z2, z3, z4, z5, z6, z7], _ =>
        have e0 := hel 0 (by decide)
        have e1 := hel 1 (by decide)
        have e2 := hel 2 (by decide)
        have e3 := hel 3 (by decide)
        have e4 := hel 4 (by decide)
        have e5 := hel 5 (by decide)
        have e6 := hel 6 (by decide)
        have e7 := hel 7 (by decide)
        rw [cells3] at e0 e1 e2 e3 e4 e5 e6 e7
        obtain ⟨a0, r0, _, _⟩ := DataW.trod_int Try.underlying3 e0
        obtain ⟨a1, r1, _, _⟩ := DataW.trod_int Try.underlying3 e1
        obtain ⟨a2, r2, _, _⟩ := DataW.trod_int Try.underlying3 e2
        obtain ⟨a3, r3, _, _⟩ := DataW.trod_int Try.underlying3 e3
        obtain ⟨a4, r4, _, _⟩ := DataW.trod_int Try.underlying3 e4
        obtain ⟨a5, r5, _, _⟩ := DataW.trod_int Try.underlying3 e5
        obtain ⟨a6, r6, _, _⟩ := DataW.trod_int Try.underlying3 e6
        obtain ⟨a7, r7, _, _⟩ := DataW.trod_int Try.underlying3 e7
        simp at r0 r1 r2 r3 r4 r5 r6 r7
        subst r0 r1 r2 r3 r4 r5 r6 r7
        exact ⟨⟨n0, n1, n2, n3, n4, n5, n6, a0, a1, a2, a3, a4, a5, a6, a7⟩, rfl⟩

end Go.Proofs.Ytdggjbaapnkcgaa
