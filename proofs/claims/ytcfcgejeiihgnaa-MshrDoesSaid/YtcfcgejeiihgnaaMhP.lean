/-
  awake of layer 10 is true.
-/
import Derived.Test.YtcfcgejeiihgnaaMhN
import Derived.Laws.StructEq
import Derived.ChangeKeysEq
namespace Go.Proofs.Ytcfcgejeiihgnaa
open Go Go.RowKit

/-- Words are the same as themselves. -/
theorem A3 : (Try.prog.info? 3).map (fun i => (i.zero, i.size, i.bytes)) = some (some (.int .i64 0), 1, 8) := by kernel_rfl
theorem words_same (d : Nat) (x : Wd) (w : World) : (Op.equalIn (d + 2) 32 (.agg (dcells x)) (.agg (dcells x))).run Try.prog w = .ok true w := by
  obtain ⟨i0, hi0, hz0, hz1, hz2⟩ := info_parts A3
  rw [run_equalIn_array w (d + 1) _ _ Try.underlying32 hi0]
  have hc3 : Try.prog.cellsOf 3 = 1 := by kernel_rfl
  rw [hc3]
  have hu := Try.underlying3
  simp [Op.eqItems, List.range, List.range.loop, go_sem]
theorem miss_eql (x : Ms) (w : World) : (binOp .eql 34 (.agg (mcells x)) (.agg (mcells x))).run Try.prog w = .ok (.bool true) w := by
  have ha := fun d => words_same d x.wd
  simp [go_sem, ha]
theorem miss_neq (x : Ms) (w : World) : (binOp .neq 34 (.agg (mcells x)) (.agg (mcells x))).run Try.prog w = .ok (.bool false) w := by
  have ha := fun d => words_same d x.wd
  simp [go_sem, ha]
theorem below_box (wr : World) (o : Obj) (cs : Array Value) : Below wr.heap.size wr ((wr.alloc o).setRow wr.heap.size cs) := below_setRow (balloc wr o) (Nat.le_refl _) _

abbrev d9 : Wd := ⟨9, 0, 0, 0, 0, 0, 0, 0⟩
abbrev s1 : Ms := newM 5 2
abbrev s2 : Ms := ⟨5, 2, -1, 1, 0, d0, false, false⟩
abbrev s3 : Ms := ⟨5, 2, 2, 1, 4, d9, false, false⟩
abbrev s4 : Ms := ⟨5, 2, 2, 2, 4, d9, false, false⟩
abbrev s5 : Ms := ⟨5, 2, 2, 2, 4, d9, false, true⟩
theorem aw1 : openP 1 [] 5 2 = (0, [s1]) := by rfl
theorem aw2 : openP 1 [s1] 6 1 = (4, [s1]) := by rfl
theorem aw3 : chg [s1] 5 ackF = (0, [s2]) := by rfl
theorem aw4 : chg [s2] 5 (dataF 2 4 d9) = (0, [s3]) := by rfl
theorem aw5 : oweP [s3] 5 = ((m0, false), [s3]) := by rfl
theorem aw6 : chg [s3] 5 ackF = (0, [s4]) := by rfl
theorem aw7 : chg [s4] 5 ackF = (7, [s4]) := by rfl
theorem aw8 : oweP [s4] 5 = ((s4, true), [s5]) := by rfl
theorem aw9 : oweP [s5] 5 = ((m0, false), [s5]) := by rfl
theorem aw10 : owingP [s5] = (5, true) := by rfl
theorem aw11 : closeP [s5] 5 = (0, []) := by rfl
theorem aw12 : getP [] 5 = (m0, false) := by rfl
theorem aw13 : chg [] 5 ackF = (5, []) := by rfl

set_option maxRecDepth 100000 in
set_option maxHeartbeats 8000000 in
/-- awake: the calls whose answers the document fixes. -/
theorem awake_any (w : World) :
    Calls Try.prog 6 #[] w fun e w' => e = .returned (.bool true) ∧ Below w.heap.size w w' := by
  have hq : ∀ w, (binOp .eql 34 (.agg #[.int .i64 5, .int .i64 2, .int .i64 2, .int .i64 2, .int .i64 4, .int .i64 9, .int .i64 0, .int .i64 0, .int .i64 0, .int .i64 0, .int .i64 0, .int .i64 0, .int .i64 0, .bool false, .bool false]) (.agg #[.int .i64 5, .int .i64 2, .int .i64 2, .int .i64 2, .int .i64 4, .int .i64 9, .int .i64 0, .int .i64 0, .int .i64 0, .int .i64 0, .int .i64 0, .int .i64 0, .int .i64 0, .bool false, .bool false])).run Try.prog w = .ok (.bool true) w := fun w => miss_eql s4 w
  go_enter Try.func6, Try.ntmps6
  go_wp2_with fail
  refine (newO (w := w) (room := 1) (by decide) (by decide) (Below.refl _ w)).mono ?_
  rintro e w1 ⟨b, rfl, ho, -⟩
  have H1 := Lib.hid ho
  clear ho
  go_wp2_with fail
  refine (new_no 0 _ (.inl (by decide))).mono ?_
  rintro e w2 ⟨rfl, rfl⟩
  go_wp2_with fail
  refine (H1.out.open 5 2 aw1).mono ?_
  rintro e w11 ⟨rfl, ho⟩
  have H2 := Lib.hid ho
  clear ho H1
  go_wp2_with fail
  refine (H2.out.open 6 1 aw2).mono ?_
  rintro e w12 ⟨rfl, ho⟩
  have H3 := Lib.hid ho
  clear ho H2
  go_wp2_with fail
  refine (H3.out.ack (by decide) 5 aw3).mono ?_
  rintro e w13 ⟨rfl, ho⟩
  have H4 := Lib.hid ho
  clear ho H3
  go_wp2_with fail
  refine (H4.out.data 5 2 4 d9 aw4).mono ?_
  rintro e w14 ⟨rfl, ho⟩
  have H5 := Lib.hid ho
  clear ho H4
  go_wp2_with fail
  refine (H5.out.owe 5 aw5).mono ?_
  rintro e w15 ⟨rfl, ho⟩
  have H6 := Lib.hid ho
  clear ho H5
  have H7 := Lib.hid (H6.out.step (below_box w15 (.cells #[.int .i64 0, .int .i64 0, .int .i64 0, .int .i64 0, .int .i64 0, .int .i64 0, .int .i64 0, .int .i64 0, .int .i64 0, .int .i64 0, .int .i64 0, .int .i64 0, .int .i64 0, .bool false, .bool false] 34) (mcells m0)))
  clear H6
  go_wp2_with ((with_reducible refine wpList_store_row (o := ⟨none, _, _, _, _, _⟩) rfl 34 (.tmp 9) (.tmp 44) rfl w15.heap.size (mcells m0) ?sx ?sy 34 ?old ?sg ?si ?so ?s1 ?_); (case sx => rfl); (case sy => rfl); (case old => exact #[.int .i64 0, .int .i64 0, .int .i64 0, .int .i64 0, .int .i64 0, .int .i64 0, .int .i64 0, .int .i64 0, .int .i64 0, .int .i64 0, .int .i64 0, .int .i64 0, .int .i64 0, .bool false, .bool false]); (case sg => exact heap_alloc_new w15 _); (case si => kernel_rfl); (case so => rfl); (case s1 => kernel_rfl); generalize (w15.alloc (.cells #[.int .i64 0, .int .i64 0, .int .i64 0, .int .i64 0, .int .i64 0, .int .i64 0, .int .i64 0, .int .i64 0, .int .i64 0, .int .i64 0, .int .i64 0, .int .i64 0, .int .i64 0, .bool false, .bool false] 34)).setRow w15.heap.size (mcells m0) = v6 at *; generalize w15.heap.size = k6 at *)
  refine (H7.out.ack (by decide) 5 aw6).mono ?_
  rintro e w17 ⟨rfl, ho⟩
  have H8 := Lib.hid (ho)
  clear ho H7
  go_wp2_with fail
  refine (H8.out.ack (by decide) 5 aw7).mono ?_
  rintro e w18 ⟨rfl, ho⟩
  have H9 := Lib.hid ho
  clear ho H8
  go_wp2_with fail
  refine (H9.out.owe 5 aw8).mono ?_
  rintro e w19 ⟨rfl, ho⟩
  have H10 := Lib.hid ho
  clear ho H9
  have H11 := Lib.hid (H10.out.addRow #[.int .i64 0, .int .i64 0, .int .i64 0, .int .i64 0, .int .i64 0, .int .i64 0, .int .i64 0, .int .i64 0, .int .i64 0, .int .i64 0, .int .i64 0, .int .i64 0, .int .i64 0, .bool false, .bool false] (mcells s4) 34)
  clear H10
  go_wp2_with ((with_reducible refine wpList_store_row (o := ⟨none, _, _, _, _, _⟩) rfl 34 (.tmp 13) (.tmp 53) rfl w19.heap.size (mcells s4) ?sx ?sy 34 ?old ?sg ?si ?so ?s1 ?_); (case sx => rfl); (case sy => rfl); (case old => exact #[.int .i64 0, .int .i64 0, .int .i64 0, .int .i64 0, .int .i64 0, .int .i64 0, .int .i64 0, .int .i64 0, .int .i64 0, .int .i64 0, .int .i64 0, .int .i64 0, .int .i64 0, .bool false, .bool false]); (case sg => exact heap_alloc_new w19 _); (case si => kernel_rfl); (case so => rfl); (case s1 => kernel_rfl); generalize (w19.alloc (.cells #[.int .i64 0, .int .i64 0, .int .i64 0, .int .i64 0, .int .i64 0, .int .i64 0, .int .i64 0, .int .i64 0, .int .i64 0, .int .i64 0, .int .i64 0, .int .i64 0, .int .i64 0, .bool false, .bool false] 34)).setRow w19.heap.size (mcells s4) = v10 at *; generalize w19.heap.size = k10 at *)
  refine (H11.out.owe 5 aw9).mono ?_
  rintro e w21 ⟨rfl, ho⟩
  have H12 := Lib.hid (ho)
  clear ho H11
  have H13 := Lib.hid (H12.out.step (below_box w21 (.cells #[.int .i64 0, .int .i64 0, .int .i64 0, .int .i64 0, .int .i64 0, .int .i64 0, .int .i64 0, .int .i64 0, .int .i64 0, .int .i64 0, .int .i64 0, .int .i64 0, .int .i64 0, .bool false, .bool false] 34) (mcells m0)))
  clear H12
  go_wp2_with ((with_reducible refine wpList_store_row (o := ⟨none, _, _, _, _, _⟩) rfl 34 (.tmp 15) (.tmp 58) rfl w21.heap.size (mcells m0) ?sx ?sy 34 ?old ?sg ?si ?so ?s1 ?_); (case sx => rfl); (case sy => rfl); (case old => exact #[.int .i64 0, .int .i64 0, .int .i64 0, .int .i64 0, .int .i64 0, .int .i64 0, .int .i64 0, .int .i64 0, .int .i64 0, .int .i64 0, .int .i64 0, .int .i64 0, .int .i64 0, .bool false, .bool false]); (case sg => exact heap_alloc_new w21 _); (case si => kernel_rfl); (case so => rfl); (case s1 => kernel_rfl); generalize (w21.alloc (.cells #[.int .i64 0, .int .i64 0, .int .i64 0, .int .i64 0, .int .i64 0, .int .i64 0, .int .i64 0, .int .i64 0, .int .i64 0, .int .i64 0, .int .i64 0, .int .i64 0, .int .i64 0, .bool false, .bool false] 34)).setRow w21.heap.size (mcells m0) = v12 at *; generalize w21.heap.size = k12 at *)
  refine (H13.out.owing aw10).mono ?_
  rintro e w23 ⟨rfl, hb⟩
  have H14 := Lib.hid (H13.out.step hb)
  clear hb H13
  go_wp2_with fail
  refine (H14.out.close 5 aw11).mono ?_
  rintro e w24 ⟨rfl, ho⟩
  have H15 := Lib.hid ho
  clear ho H14
  go_wp2_with fail
  refine (H15.out.get 5 aw12).mono ?_
  rintro e w25 ⟨rfl, hb⟩
  have H16 := Lib.hid (H15.out.step hb)
  clear hb H15
  have H17 := Lib.hid (H16.out.step (below_box w25 (.cells #[.int .i64 0, .int .i64 0, .int .i64 0, .int .i64 0, .int .i64 0, .int .i64 0, .int .i64 0, .int .i64 0, .int .i64 0, .int .i64 0, .int .i64 0, .int .i64 0, .int .i64 0, .bool false, .bool false] 34) (mcells m0)))
  clear H16
  go_wp2_with ((with_reducible refine wpList_store_row (o := ⟨none, _, _, _, _, _⟩) rfl 34 (.tmp 20) (.tmp 70) rfl w25.heap.size (mcells m0) ?sx ?sy 34 ?old ?sg ?si ?so ?s1 ?_); (case sx => rfl); (case sy => rfl); (case old => exact #[.int .i64 0, .int .i64 0, .int .i64 0, .int .i64 0, .int .i64 0, .int .i64 0, .int .i64 0, .int .i64 0, .int .i64 0, .int .i64 0, .int .i64 0, .int .i64 0, .int .i64 0, .bool false, .bool false]); (case sg => exact heap_alloc_new w25 _); (case si => kernel_rfl); (case so => rfl); (case s1 => kernel_rfl); generalize (w25.alloc (.cells #[.int .i64 0, .int .i64 0, .int .i64 0, .int .i64 0, .int .i64 0, .int .i64 0, .int .i64 0, .int .i64 0, .int .i64 0, .int .i64 0, .int .i64 0, .int .i64 0, .int .i64 0, .bool false, .bool false] 34)).setRow w25.heap.size (mcells m0) = v16 at *; generalize w25.heap.size = k16 at *; have hA := H17.out.cells (List.mem_cons_self ..))
  refine (H17.out.ack (by decide) 5 aw13).mono ?_
  rintro e w27 ⟨rfl, ho⟩
  have H18 := Lib.hid (ho)
  clear ho H17
  clear hA
  have hA := H18.out.cells (List.mem_cons_self ..)
  go_wp2_with fail
  refine (H18.out.list).mono ?_
  rintro e w50 ⟨p, cap, rfl, hin, hb⟩
  have HB := Lib.hid (H18.out.step hb).bl
  clear hb H18 hin hA
  go_wp2
  go_ret
  exact ⟨rfl, HB.out⟩

end Go.Proofs.Ytcfcgejeiihgnaa
