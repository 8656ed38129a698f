/-
  That awake of layer 4 is true.
-/
import Derived.Test.YtjnbpohjdgnknaaDoorScS
namespace Go.Proofs.YtjnbpohjdgnknaaDoor
open Go Go.RowKit

/-- Where the asked script's parts lie. -/
structure AtA (w : World) (g off ga oa gq oq cap : Nat) : Prop where
  c0 : w.cell? ⟨g, off, none⟩ = some (.slice (some ⟨ga, oa, none⟩) 1 cap)
  c1 : w.cell? ⟨ga, oa, none⟩ = some (.int .i64 1)
  c2 : w.cell? ⟨ga, oa + 1, none⟩ = some (.int .i64 1)
  c3 : w.cell? ⟨ga, oa + 2, none⟩ = some (.int .i64 0)
  c4 : w.cell? ⟨gq, oq, none⟩ = some (.int .i64 5)
  c5 : w.cell? ⟨gq, oq + 1, none⟩ = some (.int .i64 6)
  c6 : w.cell? ⟨gq, oq + 2, none⟩ = some (.int .i64 7)
theorem AtA.step {w w1 : World} {g off ga oa gq oq cap : Nat} (h : AtA w g off ga oa gq oq cap) (hb : Below w.heap.size w w1) : AtA w1 g off ga oa gq oq cap :=
  ⟨(hb.cell (block_lt_of_cell h.c0)).trans h.c0, (hb.cell (block_lt_of_cell h.c1)).trans h.c1, (hb.cell (block_lt_of_cell h.c2)).trans h.c2, (hb.cell (block_lt_of_cell h.c3)).trans h.c3, (hb.cell (block_lt_of_cell h.c4)).trans h.c4, (hb.cell (block_lt_of_cell h.c5)).trans h.c5, (hb.cell (block_lt_of_cell h.c6)).trans h.c6⟩
theorem at_A {w : World} {p q : Option Addr} (h : ScAt w sA p q) : ∃ g off ga oa gq oq cap, p = some ⟨g, off, none⟩ ∧ q = some ⟨gq, oq, none⟩ ∧ AtA w g off ga oa gq oq cap := by
  obtain ⟨g, off, u, rfl, _, hc, ho⟩ := h.ps 0 (by simp [sA])
  obtain ⟨gq, oq, rfl, _, d0, d1, d2⟩ := h.pk 0 (by simp [sA])
  obtain ⟨pa, cap, rfl, hin⟩ := ho.in_
  obtain ⟨ga, oa, rfl, _, e0, e1, e2⟩ := hin 0 (by simp [sA])
  refine ⟨g, off, ga, oa, gq, oq, cap, rfl, rfl, ⟨?_, ?_, ?_, ?_, ?_, ?_, ?_⟩⟩
  · simpa [sA] using hc
  · simpa [sA] using e0
  · simpa [sA] using e1
  · simpa [sA] using e2
  · simpa [sA] using d0
  · simpa [sA] using d1
  · simpa [sA] using d2
theorem eq_A (w : World) : (binOp .eql 22 (.agg #[.int .i64 1, .int .i64 2, .int .i64 3]) (.agg #[.int .i64 1, .int .i64 2, .int .i64 3])).run Tryd.prog w = .ok (.bool true) w := by
  have ha := fun d => arr_eq d 1 2 3 1 2 3
  simp [go_sem, ha]

set_option maxRecDepth 100000 in
set_option maxHeartbeats 4000000 in
/-- awake: the calls whose answers the document fixes. -/
theorem awake4_any (w : World) (hS : Std w) :
    Calls Tryd.prog 6 #[] w fun e w' => e = .returned (.bool true) ∧ Below w.heap.size w w' := by
  have HS := Lib.hid hS
  have heq := eq_A
  clear hS
  go_enter Tryd.func6, Tryd.ntmps6
  go_wp2_with fail
  refine (read_script ⟨bA.toArray⟩ w (by decide)).mono ?_
  rintro e w1 ⟨hb1, h1⟩
  have e1 : (ByteArray.mk bA.toArray).data.toList = bA := rfl
  rw [e1, rd_A] at h1
  obtain ⟨pv, qv, rfl, ho1, ho2⟩ := h1
  obtain ⟨p, cp, q, cq, rfl, rfl, hat⟩ := own_at ho1 ho2
  obtain ⟨g, off, ga, oa, gq, oq, cap, rfl, rfl, hA⟩ := at_A hat
  have HA := Lib.hid (hat.step ((Below.refl _ w1).alloc (Nat.le_refl _) (.cells (sC sA (some ⟨g, off, none⟩) cp (some ⟨gq, oq, none⟩) cq) 28)))
  have AA := Lib.hid (hA.step ((Below.refl _ w1).alloc (Nat.le_refl _) (.cells (sC sA (some ⟨g, off, none⟩) cp (some ⟨gq, oq, none⟩) cq) 28)))
  have hbw := hb1.trans (((Below.refl w1.heap.size w1).alloc (Nat.le_refl _) (.cells (sC sA (some ⟨g, off, none⟩) cp (some ⟨gq, oq, none⟩) cq) 28)).mono hb1.size)
  have HS1 := Lib.hid (HS.out.step hbw)
  have B1 : Hid ((w1.alloc (.cells (sC sA (some ⟨g, off, none⟩) cp (some ⟨gq, oq, none⟩) cq) 28)).heap[w1.heap.size]? = _) := Lib.hid (heap_alloc_new w1 _)
  clear ho1 ho2 hat hA hb1 e1
  go_wp2_with fail
  refine (bytes_script sA _ cp _ cq _ HA.out fine_A HS1.out.tab HS1.out.lt HS1.out.pow).mono ?_
  rintro e w2 ⟨rfl, hb2⟩
  rw [bts_A]
  have hbw2 := bstep hbw hb2
  have AA2 := Lib.hid (AA.out.step hb2)
  have HS2 := Lib.hid (HS1.out.step hb2)
  have B2 := Lib.hid ((hb2.block w1.heap.size (by simp)).trans B1.out)
  clear hb2 hbw HA AA B1 HS1
  go_wp2_with fail
  refine (read_script ⟨#[1]⟩ w2 (by decide)).mono ?_
  rintro e w3 ⟨hb3, h3⟩
  have e3 : (ByteArray.mk #[1]).data.toList = [1] := rfl
  rw [e3, rd_1] at h3
  subst h3
  have hb3' := bstep hb3 ((Below.refl _ w3).alloc (Nat.le_refl _) (.cells (sL c0 nilV nilV) 28))
  have hbw3 := bstep hbw2 hb3'
  have AA3 := Lib.hid (AA2.out.step hb3')
  have HS3 := Lib.hid (HS2.out.step hb3')
  have B3 := Lib.hid ((hb3'.block w1.heap.size (lt_of_block B2.out)).trans B2.out)
  clear hb3 hb3' hbw2 AA2 HS2 B2 e3
  go_wp2_with fail
  refine (bytes_script sZ none 0 none 0 _ ⟨fun j hj => by simp [sZ] at hj, fun j hj => by simp [sZ] at hj⟩ fine_Z HS3.out.tab HS3.out.lt HS3.out.pow).mono ?_
  rintro e w4 ⟨rfl, hb4⟩
  rw [bts_Z]
  have hbw4 := bstep hbw3 hb4
  have AA4 := AA3.out.step hb4
  have B4 := (hb4.block w1.heap.size (lt_of_block B3.out)).trans B3.out
  have hc : ∀ o, w4.cell? ⟨w1.heap.size, o, none⟩ = (#[.int .i64 1, .int .i64 1, .int .i64 1, .int .i64 1, .int .i64 2, .int .i64 1, .int .i64 0, .int .i64 1, .int .i64 1, .int .i64 1, .int .i64 1, .int .i64 2, .int .i64 3, .slice (some ⟨g, off, none⟩) 1 cp, .slice (some ⟨gq, oq, none⟩) 1 cq] : Array Value)[o]? := blk_cell B4
  obtain ⟨d0, d1, d2, d3, d4, d5, d6⟩ := AA4
  have hlen : (bA.length : Int) = 19 := rfl
  clear hb4 hbw3 AA3 HS3 B3 B4
  go_wp2
  go_ret
  exact ⟨rfl, hbw4⟩

end Go.Proofs.YtjnbpohjdgnknaaDoor
