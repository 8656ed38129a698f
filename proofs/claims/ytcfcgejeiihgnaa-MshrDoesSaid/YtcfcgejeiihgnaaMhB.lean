/-
  The smallest functions, one contract each: known, allCame, takes, ofLine, the closures, IndexFunc, place, first.
-/
import Derived.Test.YtcfcgejeiihgnaaMhA
namespace Go.Proofs.Ytcfcgejeiihgnaa
open Go Go.RowKit

theorem known_any (x : Ms) (w : World) :
    Calls Try.prog 41 #[.agg (mcells x)] w fun e w' => e = .returned (.bool (knw x)) ∧ Below w.heap.size w w' := by
  have hb := balloc w (.cells (mcells x) 34)
  have HT : Hid (knw x = (x.nd != -1)) := Lib.hid rfl
  go_enter Try.func41, Try.ntmps41
  go_wp2
  go_ret
  exact ⟨ret_bool HT.out.symm, hb⟩

set_option maxHeartbeats 1000000 in
theorem came_any (x : Ms) (w : World) :
    Calls Try.prog 33 #[.agg (mcells x)] w fun e w' => e = .returned (.bool (came x)) ∧ Below w.heap.size w w' := by
  rcases Bool.eq_false_or_eq_true (knw x) with h | h
  · have HT : Hid (came x = (x.gt == x.nd)) := Lib.hid (by simp [came, h])
    go_enter Try.func33, Try.ntmps33
    go_wp2_with (first
      | ((with_reducible refine wpList_load_row (o := ⟨some 3, _, _, _, _, _⟩) rfl 34 (.tmp 1) rfl w.heap.size ?lx 34 (mcells x) (0, 0) _ ?lg Try.underlying34 ?ld ?li ?_); (case lx => rfl); (case lg => exact heap_alloc_new w _); (case ld => rfl); (case li => kernel_rfl))
      | (go_at_call 41; refine (known_any x _).mono ?_; rintro e w1 ⟨rfl, hb1⟩; rw [h]; have hc := blk_cell (box_at hb1)))
    go_ret
    exact ⟨ret_bool HT.out.symm, bbox hb1⟩
  · have HT : Hid (came x = false) := Lib.hid (by simp [came, h])
    go_enter Try.func33, Try.ntmps33
    go_wp2_with (first
      | ((with_reducible refine wpList_load_row (o := ⟨some 3, _, _, _, _, _⟩) rfl 34 (.tmp 1) rfl w.heap.size ?lx 34 (mcells x) (0, 0) _ ?lg Try.underlying34 ?ld ?li ?_); (case lx => rfl); (case lg => exact heap_alloc_new w _); (case ld => rfl); (case li => kernel_rfl))
      | (go_at_call 41; refine (known_any x _).mono ?_; rintro e w1 ⟨rfl, hb1⟩; rw [h]))
    go_ret
    exact ⟨ret_bool HT.out.symm, bbox hb1⟩

set_option maxHeartbeats 2000000 in
theorem takes_any (x : Ms) (acks own : Int) (w : World) :
    Calls Try.prog 36 #[.agg (mcells x), .int .i64 acks, .int .i64 own] w fun e w' => e = .returned (.bool (tkes x acks own)) ∧ Below w.heap.size w w' := by
  rcases Bool.eq_false_or_eq_true (knw x) with h | h
  · have HT : Hid (tkes x acks own = false) := Lib.hid (by simp [tkes, h])
    go_enter Try.func36, Try.ntmps36
    go_wp2_with (first
      | ((with_reducible refine wpList_load_row (o := ⟨some 7, _, _, _, _, _⟩) rfl 34 (.tmp 3) rfl w.heap.size ?lx 34 (mcells x) (0, 0) _ ?lg Try.underlying34 ?ld ?li ?_); (case lx => rfl); (case lg => exact heap_alloc_new w _); (case ld => rfl); (case li => kernel_rfl))
      | (go_at_call 41; refine (known_any x _).mono ?_; rintro e w1 ⟨rfl, hb1⟩; rw [h]))
    go_ret
    exact ⟨ret_bool HT.out.symm, bbox hb1⟩
  · by_cases ha : acks < x.gt
    · have HT : Hid (tkes x acks own = false) := Lib.hid (by simp [tkes, ha])
      go_enter Try.func36, Try.ntmps36
      go_wp2_with (first
        | ((with_reducible refine wpList_load_row (o := ⟨some 7, _, _, _, _, _⟩) rfl 34 (.tmp 3) rfl w.heap.size ?lx 34 (mcells x) (0, 0) _ ?lg Try.underlying34 ?ld ?li ?_); (case lx => rfl); (case lg => exact heap_alloc_new w _); (case ld => rfl); (case li => kernel_rfl))
        | (go_at_call 41; refine (known_any x _).mono ?_; rintro e w1 ⟨rfl, hb1⟩; rw [h]; have hc := blk_cell (box_at hb1)))
      go_ret
      exact ⟨ret_bool HT.out.symm, bbox hb1⟩
    · have ha' : decide (acks < x.gt) = false := by simpa using ha
      have HG : tkes x acks own = if (own == 4) = true then x.kd == 2 else if (own == 1 || own == 2) = true then x.kd == 1 && acks == 0 else false := by
        unfold tkes
        rw [if_neg (by simp [h]; omega)]
      clear ha
      rcases Bool.eq_false_or_eq_true (own == 4) with h4 | h4
      · have HT : Hid (tkes x acks own = (x.kd == 2)) := Lib.hid (by rw [HG, if_pos h4])
        clear HG
        go_enter Try.func36, Try.ntmps36
        go_wp2_with (first
          | ((with_reducible refine wpList_load_row (o := ⟨some 7, _, _, _, _, _⟩) rfl 34 (.tmp 3) rfl w.heap.size ?lx 34 (mcells x) (0, 0) _ ?lg Try.underlying34 ?ld ?li ?_); (case lx => rfl); (case lg => exact heap_alloc_new w _); (case ld => rfl); (case li => kernel_rfl))
          | (go_at_call 41; refine (known_any x _).mono ?_; rintro e w1 ⟨rfl, hb1⟩; rw [h]; have hc := blk_cell (box_at hb1)))
        go_ret
        exact ⟨ret_bool HT.out.symm, bbox hb1⟩
      · rcases Bool.eq_false_or_eq_true (own == 1) with h1 | h1
        · rcases Bool.eq_false_or_eq_true (x.kd == 1) with hk | hk
          · have HT : Hid (tkes x acks own = (acks == 0)) := Lib.hid (by rw [HG, if_neg (by simp [h4]), if_pos (by simp [h1]), hk, Bool.true_and])
            clear HG
            go_enter Try.func36, Try.ntmps36
            go_wp2_with (first
              | ((with_reducible refine wpList_load_row (o := ⟨some 7, _, _, _, _, _⟩) rfl 34 (.tmp 3) rfl w.heap.size ?lx 34 (mcells x) (0, 0) _ ?lg Try.underlying34 ?ld ?li ?_); (case lx => rfl); (case lg => exact heap_alloc_new w _); (case ld => rfl); (case li => kernel_rfl))
              | (go_at_call 41; refine (known_any x _).mono ?_; rintro e w1 ⟨rfl, hb1⟩; rw [h]; have hc := blk_cell (box_at hb1)))
            go_ret
            exact ⟨ret_bool HT.out.symm, bbox hb1⟩
          · have HT : Hid (tkes x acks own = false) := Lib.hid (by rw [HG, if_neg (by simp [h4]), if_pos (by simp [h1]), hk, Bool.false_and])
            clear HG
            go_enter Try.func36, Try.ntmps36
            go_wp2_with (first
              | ((with_reducible refine wpList_load_row (o := ⟨some 7, _, _, _, _, _⟩) rfl 34 (.tmp 3) rfl w.heap.size ?lx 34 (mcells x) (0, 0) _ ?lg Try.underlying34 ?ld ?li ?_); (case lx => rfl); (case lg => exact heap_alloc_new w _); (case ld => rfl); (case li => kernel_rfl))
              | (go_at_call 41; refine (known_any x _).mono ?_; rintro e w1 ⟨rfl, hb1⟩; rw [h]; have hc := blk_cell (box_at hb1)))
            go_ret
            exact ⟨ret_bool HT.out.symm, bbox hb1⟩
        · rcases Bool.eq_false_or_eq_true (own == 2) with h2 | h2
          · rcases Bool.eq_false_or_eq_true (x.kd == 1) with hk | hk
            · have HT : Hid (tkes x acks own = (acks == 0)) := Lib.hid (by rw [HG, if_neg (by simp [h4]), if_pos (by simp [h2]), hk, Bool.true_and])
              clear HG
              go_enter Try.func36, Try.ntmps36
              go_wp2_with (first
                | ((with_reducible refine wpList_load_row (o := ⟨some 7, _, _, _, _, _⟩) rfl 34 (.tmp 3) rfl w.heap.size ?lx 34 (mcells x) (0, 0) _ ?lg Try.underlying34 ?ld ?li ?_); (case lx => rfl); (case lg => exact heap_alloc_new w _); (case ld => rfl); (case li => kernel_rfl))
                | (go_at_call 41; refine (known_any x _).mono ?_; rintro e w1 ⟨rfl, hb1⟩; rw [h]; have hc := blk_cell (box_at hb1)))
              go_ret
              exact ⟨ret_bool HT.out.symm, bbox hb1⟩
            · have HT : Hid (tkes x acks own = false) := Lib.hid (by rw [HG, if_neg (by simp [h4]), if_pos (by simp [h2]), hk, Bool.false_and])
              clear HG
              go_enter Try.func36, Try.ntmps36
              go_wp2_with (first
                | ((with_reducible refine wpList_load_row (o := ⟨some 7, _, _, _, _, _⟩) rfl 34 (.tmp 3) rfl w.heap.size ?lx 34 (mcells x) (0, 0) _ ?lg Try.underlying34 ?ld ?li ?_); (case lx => rfl); (case lg => exact heap_alloc_new w _); (case ld => rfl); (case li => kernel_rfl))
                | (go_at_call 41; refine (known_any x _).mono ?_; rintro e w1 ⟨rfl, hb1⟩; rw [h]; have hc := blk_cell (box_at hb1)))
              go_ret
              exact ⟨ret_bool HT.out.symm, bbox hb1⟩
          · have HT : Hid (tkes x acks own = false) := Lib.hid (by rw [HG, if_neg (by simp [h4]), if_neg (by simp [h1, h2])])
            clear HG
            go_enter Try.func36, Try.ntmps36
            go_wp2_with (first
              | ((with_reducible refine wpList_load_row (o := ⟨some 7, _, _, _, _, _⟩) rfl 34 (.tmp 3) rfl w.heap.size ?lx 34 (mcells x) (0, 0) _ ?lg Try.underlying34 ?ld ?li ?_); (case lx => rfl); (case lg => exact heap_alloc_new w _); (case ld => rfl); (case li => kernel_rfl))
              | (go_at_call 41; refine (known_any x _).mono ?_; rintro e w1 ⟨rfl, hb1⟩; rw [h]; have hc := blk_cell (box_at hb1)))
            go_ret
            exact ⟨ret_bool HT.out.symm, bbox hb1⟩

/-- The closure of a line. -/
abbrev isF (p : Addr) : Value := .func (.func 40) #[] #[.pointer (some p)]
abbrev osF : Value := .func (.func 29) #[] #[]
theorem ofLine_any (line : Int) (w : World) :
    Calls Try.prog 30 #[.int .i64 line] w fun e w' => e = .returned (isF ⟨w.heap.size, 0, none⟩) ∧ w.alloc (.cells #[.int .i64 line] 3) = w' := by
  have hmf : ∀ (fn : Fn) (first cap : Array Value) (w : World), (Instr.makeFunc fn first cap).run Try.prog w = .ok (.func fn first cap) w := fun _ _ _ _ => rfl
  go_enter Try.func30, Try.ntmps30
  go_wp2
  go_ret
  exact ⟨rfl, rfl⟩
theorem isIt_any (x : Ms) (p : Addr) (line : Int) (w : World) (hp : w.cell? p = some (.int .i64 line)) :
    Calls Try.prog 40 #[.agg (mcells x), .pointer (some p)] w fun e w' => e = .returned (.bool (isL line x)) ∧ Below w.heap.size w w' := by
  have hp2 : ∀ o, (w.alloc o).cell? p = some (.int .i64 line) := fun o => Lib.cell?_alloc_some o hp
  have HT : Hid (isL line x = (x.ln == line)) := Lib.hid rfl
  have hb := balloc w (.cells (mcells x) 34)
  go_enter Try.func40, Try.ntmps40
  go_wp2
  go_ret
  exact ⟨ret_bool HT.out.symm, hb⟩
theorem owes_any (x : Ms) (w : World) :
    Calls Try.prog 29 #[.agg (mcells x)] w fun e w' => e = .returned (.bool x.os) ∧ Below w.heap.size w w' := by
  have hb := balloc w (.cells (mcells x) 34)
  go_enter Try.func29, Try.ntmps29
  go_wp2
  go_ret
  exact ⟨rfl, hb⟩

end Go.Proofs.Ytcfcgejeiihgnaa
