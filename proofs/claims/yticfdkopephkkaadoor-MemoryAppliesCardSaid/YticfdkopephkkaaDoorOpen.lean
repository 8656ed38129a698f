/-
  A machine's sizes that come in by value are thirteen numbers, each an int's.
-/
import Derived.Test.YticfdkopephkkaaDoorLaidA
import Derived.Test.YticfdkopephkkaaDoorChk
namespace Go.Proofs.YticfdkopephkkaaDoor
open Go.ChangeShapes Go.WideShapes Go.ChangeAt Go.RowKit

theorem cells3 : Tryd.prog.cellsOf 3 = 1 := by kernel_rfl
theorem cells22 : Tryd.prog.cellsOf 22 = 3 := by kernel_rfl
theorem cells24 : Tryd.prog.cellsOf 24 = 13 := by kernel_rfl

theorem int_cell {H : Type} {enc : TypeId × Value → H} {W : World} {m : Nat} {v : Value} {l : List Value} {y : DataW H × List MemPlace} (hl : l.take 1 = [v])
    (h : DataW.trod enc Tryd.prog W 0 (fun _ => true) true m 3 (l.take (Tryd.prog.cellsOf 3)) = some y) : ∃ n : Int, v = .int .i64 n ∧ n ≤ 9223372036854775807 := by
  rw [cells3, hl] at h
  obtain ⟨n, e, _, hw⟩ := DataW.trod_int Tryd.underlying3 h
  simp at e
  exact ⟨n, e, (int_range hw).2⟩

set_option maxRecDepth 100000 in
theorem open_cfg {H : Type} {enc : TypeId × Value → H} {W : World} {base : Nat} {v : Value} {d : DataW H} {p : List MemPlace} (hv : Value.okWide Tryd.prog W .any base 24 v)
    (h : DataW.Trod enc Tryd.prog W 0 (fun _ => true) true 24 v d p) : ∃ c : Cfg, v = cv c ∧ c.fits := by
  obtain ⟨cs, rfl, hsz⟩ := okWide_struct Tryd.underlying24 hv
  obtain ⟨l⟩ := cs
  match l, hsz.trans cells24 with
  | [c0, c1, c2, c3, c4, c5, c6, c7, c8, c9, c10, c11, c12], _ =>
    obtain ⟨fuel, hf⟩ := h
    obtain ⟨xs, n, _, _, _, hlen, hg⟩ := DataW.trod_struct Tryd.underlying24 hf
    match xs, hlen with
    | [y0, y1, y2, y3, y4, y5, y6, y7, y8, y9, y10], _ =>
      obtain ⟨n0, rfl, b0⟩ := int_cell rfl (hg 0 _ rfl)
      obtain ⟨n1, rfl, b1⟩ := int_cell rfl (hg 1 _ rfl)
      obtain ⟨n2, rfl, b2⟩ := int_cell rfl (hg 2 _ rfl)
      obtain ⟨n3, rfl, b3⟩ := int_cell rfl (hg 3 _ rfl)
      obtain ⟨n4, rfl, b4⟩ := int_cell rfl (hg 4 _ rfl)
      obtain ⟨n5, rfl, b5⟩ := int_cell rfl (hg 5 _ rfl)
      obtain ⟨n6, rfl, b6⟩ := int_cell rfl (hg 6 _ rfl)
      obtain ⟨n7, rfl, b7⟩ := int_cell rfl (hg 7 _ rfl)
      obtain ⟨n8, rfl, b8⟩ := int_cell rfl (hg 8 _ rfl)
      obtain ⟨n9, rfl, b9⟩ := int_cell rfl (hg 9 _ rfl)
      have hr : DataW.trod enc Tryd.prog W 0 (fun _ => true) true n 22 ([c10, c11, c12].take (Tryd.prog.cellsOf 22)) = some y10 := hg 10 _ rfl
      rw [cells22] at hr
      obtain ⟨zs, m, _, _, _, hzl, hel⟩ := DataW.trod_array Tryd.underlying22 hr
      match zs, hzl with
      | [z0, z1, z2], _ =>
        have e0 := hel 0 (by decide)
        have e1 := hel 1 (by decide)
        have e2 := hel 2 (by decide)
        rw [cells3] at e0 e1 e2
        obtain ⟨n10, r10, _, w10⟩ := DataW.trod_int Tryd.underlying3 e0
        obtain ⟨n11, r11, _, w11⟩ := DataW.trod_int Tryd.underlying3 e1
        obtain ⟨n12, r12, _, w12⟩ := DataW.trod_int Tryd.underlying3 e2
        simp at r10 r11 r12
        subst r10 r11 r12
        exact ⟨⟨n0, n1, n2, n3, n4, n5, n6, n7, n8, n9, n10, n11, n12⟩, rfl, b0, b1, b2, b3, b4, b5, b6, b7, b8, b9, (int_range w10).2, (int_range w11).2, (int_range w12).2⟩

end Go.Proofs.YticfdkopephkkaaDoor
