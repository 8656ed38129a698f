/-
  awake of layer 11 is true.
-/
import Derived.Test.YtlhecliamhjobaaWbN
import Derived.Laws.StructEq
import Derived.ChangeKeysEq
namespace Go.Proofs.Ytlhecliamhjobaa
open Go Go.RowKit

/-- Words are the same as themselves. -/
theorem A3 : (Try.prog.info? 3).map (fun i => (i.zero, i.size, i.bytes)) = some (some (.int .i64 0), 1, 8) := by kernel_rfl
theorem words_same (d : Nat) (x : Wd) (w : World) : (Op.equalIn (d + 2) 32 (.agg (dcells x)) (.agg (dcells x))).run Try.prog w = .ok true w := by
  obtain ⟨i0, hi0, hz0, hz1, hz2⟩ := info_parts A3
  rw [run_equalIn_array w (d + 1) _ _ Try.underlying32 hi0]
  have hc3 : Try.prog.cellsOf 3 = 1 := by kernel_rfl
  rw [hc3]
  have hu := Try.underlying3
  simp [Op.eqItems, List.range, List.range.loop, go_sem]
theorem words_eql (x : Wd) (w : World) : (binOp .eql 32 (.agg (dcells x)) (.agg (dcells x))).run Try.prog w = .ok (.bool true) w := by
  have ha := fun d => words_same d x
  simp [go_sem, ha]
theorem words_neq (x : Wd) (w : World) : (binOp .neq 32 (.agg (dcells x)) (.agg (dcells x))).run Try.prog w = .ok (.bool false) w := by
  have ha := fun d => words_same d x
  simp [go_sem, ha]
theorem entry_eql (x : En) (w : World) : (binOp .eql 48 (.agg (mcells x)) (.agg (mcells x))).run Try.prog w = .ok (.bool true) w := by
  have ha := fun d => words_same d x.wd
  simp [go_sem, ha]
theorem entry_neq (x : En) (w : World) : (binOp .neq 48 (.agg (mcells x)) (.agg (mcells x))).run Try.prog w = .ok (.bool false) w := by
  have ha := fun d => words_same d x.wd
  simp [go_sem, ha]
theorem below_box (wr : World) (o : Obj) (cs : Array Value) : Below wr.heap.size wr ((wr.alloc o).setRow wr.heap.size cs) := below_setRow (balloc wr o) (Nat.le_refl _) _

abbrev d3 : Wd := ⟨3, 0, 0, 0, 0, 0, 0, 0⟩
abbrev s1 : En := newE 5 d3
abbrev s2 : En := ⟨5, d3, false⟩
theorem aw1 : putP 1 [] 5 d3 = (0, [s1]) := by rfl
theorem aw2 : putP 1 [s1] 5 d0 = (6, [s1]) := by rfl
theorem aw3 : putP 1 [s1] 6 d0 = (4, [s1]) := by rfl
theorem aw4 : ansP id [s1] 5 = ((d3, 0), [s1]) := by rfl
theorem aw5 : ansP gone [s1] 5 = ((d3, 0), [s2]) := by rfl
theorem aw6 : ansP id [s2] 5 = ((d0, 7), [s2]) := by rfl
theorem aw7 : getP [s2] 5 = (s2, true) := by rfl
theorem aw8 : dropP [s2] 5 = (0, []) := by rfl
theorem aw9 : dropP [] 5 = (5, []) := by rfl

set_option maxRecDepth 100000 in
set_option maxHeartbeats 8000000 in
/-- awake: the calls whose answers the document fixes. -/
theorem awake_any (w : World) :
    Calls Try.prog 5 #[] w fun e w' => e = .returned (.bool true) ∧ Below w.heap.size w w' := by
  have hqe : ∀ w, (binOp .eql 48 (.agg #[.int .i64 5, .int .i64 3, .int .i64 0, .int .i64 0, .int .i64 0, .int .i64 0, .int .i64 0, .int .i64 0, .int .i64 0, .bool false]) (.agg #[.int .i64 5, .int .i64 3, .int .i64 0, .int .i64 0, .int .i64 0, .int .i64 0, .int .i64 0, .int .i64 0, .int .i64 0, .bool false])).run Try.prog w = .ok (.bool true) w := fun w => entry_eql s2 w
  have hqw : ∀ w, (binOp .eql 32 (.agg #[.int .i64 3, .int .i64 0, .int .i64 0, .int .i64 0, .int .i64 0, .int .i64 0, .int .i64 0, .int .i64 0]) (.agg #[.int .i64 3, .int .i64 0, .int .i64 0, .int .i64 0, .int .i64 0, .int .i64 0, .int .i64 0, .int .i64 0])).run Try.prog w = .ok (.bool true) w := fun w => words_eql d3 w
  go_enter Try.func5, Try.ntmps5
  go_wp2_with fail
  refine (newO (w := w) (room := 1) (by decide) (by decide) (Below.refl _ w)).mono ?_
  rintro e w1 ⟨b, rfl, ho, -⟩
  have H1 := Lib.hid ho
  clear ho
  go_wp2_with fail
  refine (new_no 9 _ (.inr (by decide))).mono ?_
  rintro e w2 ⟨rfl, rfl⟩
  go_wp2_with fail
  refine (H1.out.put 5 d3 aw1).mono ?_
  rintro e w11 ⟨rfl, ho⟩
  have H2 := Lib.hid (ho)
  clear ho H1
  go_wp2_with fail
  refine (H2.out.put 5 d0 aw2).mono ?_
  rintro e w12 ⟨rfl, ho⟩
  have H3 := Lib.hid (ho)
  clear ho H2
  go_wp2_with fail
  refine (H3.out.put 6 d0 aw3).mono ?_
  rintro e w13 ⟨rfl, ho⟩
  have H4 := Lib.hid (ho)
  clear ho H3
  go_wp2_with fail
  refine (H4.out.share 5 aw4).mono ?_
  rintro e w14 ⟨rfl, ho⟩
  have H5 := Lib.hid (ho)
  clear ho H4
  have H6 := Lib.hid (H5.out.addRow #[.int .i64 0, .int .i64 0, .int .i64 0, .int .i64 0, .int .i64 0, .int .i64 0, .int .i64 0, .int .i64 0] (dcells d3) 32)
  clear H5
  go_wp2_with ((with_reducible refine wpList_store_row (o := ⟨none, _, _, _, _, _⟩) rfl 32 (.tmp 8) (.tmp 39) rfl w14.heap.size (dcells d3) ?sx ?sy 32 ?old ?sg ?si ?so ?s1 ?_); (case sx => rfl); (case sy => rfl); (case old => exact #[.int .i64 0, .int .i64 0, .int .i64 0, .int .i64 0, .int .i64 0, .int .i64 0, .int .i64 0, .int .i64 0]); (case sg => exact heap_alloc_new w14 _); (case si => kernel_rfl); (case so => rfl); (case s1 => kernel_rfl); generalize (w14.alloc (.cells #[.int .i64 0, .int .i64 0, .int .i64 0, .int .i64 0, .int .i64 0, .int .i64 0, .int .i64 0, .int .i64 0] 32)).setRow w14.heap.size (dcells d3) = v5 at *; generalize w14.heap.size = k5 at *)
  refine (H6.out.give 5 aw5).mono ?_
  rintro e w16 ⟨rfl, ho⟩
  have H7 := Lib.hid (ho)
  clear ho H6
  have H8 := Lib.hid (H7.out.addRow #[.int .i64 0, .int .i64 0, .int .i64 0, .int .i64 0, .int .i64 0, .int .i64 0, .int .i64 0, .int .i64 0] (dcells d3) 32)
  clear H7
  go_wp2_with ((with_reducible refine wpList_store_row (o := ⟨none, _, _, _, _, _⟩) rfl 32 (.tmp 10) (.tmp 44) rfl w16.heap.size (dcells d3) ?sx ?sy 32 ?old ?sg ?si ?so ?s1 ?_); (case sx => rfl); (case sy => rfl); (case old => exact #[.int .i64 0, .int .i64 0, .int .i64 0, .int .i64 0, .int .i64 0, .int .i64 0, .int .i64 0, .int .i64 0]); (case sg => exact heap_alloc_new w16 _); (case si => kernel_rfl); (case so => rfl); (case s1 => kernel_rfl); generalize (w16.alloc (.cells #[.int .i64 0, .int .i64 0, .int .i64 0, .int .i64 0, .int .i64 0, .int .i64 0, .int .i64 0, .int .i64 0] 32)).setRow w16.heap.size (dcells d3) = v7 at *; generalize w16.heap.size = k7 at *)
  refine (H8.out.share 5 aw6).mono ?_
  rintro e w18 ⟨rfl, ho⟩
  have H9 := Lib.hid (ho)
  clear ho H8
  have H10 := Lib.hid (H9.out.step (below_box w18 (.cells #[.int .i64 0, .int .i64 0, .int .i64 0, .int .i64 0, .int .i64 0, .int .i64 0, .int .i64 0, .int .i64 0] 32) (dcells d0)))
  clear H9
  go_wp2_with ((with_reducible refine wpList_store_row (o := ⟨none, _, _, _, _, _⟩) rfl 32 (.tmp 12) (.tmp 49) rfl w18.heap.size (dcells d0) ?sx ?sy 32 ?old ?sg ?si ?so ?s1 ?_); (case sx => rfl); (case sy => rfl); (case old => exact #[.int .i64 0, .int .i64 0, .int .i64 0, .int .i64 0, .int .i64 0, .int .i64 0, .int .i64 0, .int .i64 0]); (case sg => exact heap_alloc_new w18 _); (case si => kernel_rfl); (case so => rfl); (case s1 => kernel_rfl); generalize (w18.alloc (.cells #[.int .i64 0, .int .i64 0, .int .i64 0, .int .i64 0, .int .i64 0, .int .i64 0, .int .i64 0, .int .i64 0] 32)).setRow w18.heap.size (dcells d0) = v9 at *; generalize w18.heap.size = k9 at *)
  refine (H10.out.get 5 aw7).mono ?_
  rintro e w20 ⟨rfl, hb⟩
  have H11 := Lib.hid (H10.out.step hb)
  clear hb H10
  have H12 := Lib.hid (H11.out.addRow #[.int .i64 0, .int .i64 0, .int .i64 0, .int .i64 0, .int .i64 0, .int .i64 0, .int .i64 0, .int .i64 0, .int .i64 0, .bool false] (mcells s2) 48)
  clear H11
  go_wp2_with ((with_reducible refine wpList_store_row (o := ⟨none, _, _, _, _, _⟩) rfl 48 (.tmp 14) (.tmp 54) rfl w20.heap.size (mcells s2) ?sx ?sy 48 ?old ?sg ?si ?so ?s1 ?_); (case sx => rfl); (case sy => rfl); (case old => exact #[.int .i64 0, .int .i64 0, .int .i64 0, .int .i64 0, .int .i64 0, .int .i64 0, .int .i64 0, .int .i64 0, .int .i64 0, .bool false]); (case sg => exact heap_alloc_new w20 _); (case si => kernel_rfl); (case so => rfl); (case s1 => kernel_rfl); generalize (w20.alloc (.cells #[.int .i64 0, .int .i64 0, .int .i64 0, .int .i64 0, .int .i64 0, .int .i64 0, .int .i64 0, .int .i64 0, .int .i64 0, .bool false] 48)).setRow w20.heap.size (mcells s2) = v11 at *; generalize w20.heap.size = k11 at *)
  refine (H12.out.dropL 5 aw8).mono ?_
  rintro e w22 ⟨rfl, ho⟩
  have H13 := Lib.hid (ho)
  clear ho H12
  have hA := H13.out.cells (List.mem_cons_self ..)
  have hB := H13.out.cells (List.mem_cons_of_mem _ (List.mem_cons_self ..))
  have hC := H13.out.cells (List.mem_cons_of_mem _ (List.mem_cons_of_mem _ (List.mem_cons_self ..)))
  go_wp2_with fail
  refine (H13.out.dropL 5 aw9).mono ?_
  rintro e w23 ⟨rfl, ho⟩
  have H14 := Lib.hid (ho)
  clear ho H13
  clear hA hB hC
  go_wp2_with fail
  refine (H14.out.left).mono ?_
  rintro e w50 ⟨rfl, nn, rfl⟩
  have H50 := Lib.hid (H14.out.drewN nn)
  clear H14
  go_wp2_with fail
  refine (H50.out.list).mono ?_
  rintro e w51 ⟨p, cap, rfl, hin, hb⟩
  have HB := Lib.hid (H50.out.step hb).bl
  clear hb H50 hin
  go_wp2
  go_ret
  exact ⟨rfl, HB.out⟩

end Go.Proofs.Ytlhecliamhjobaa
