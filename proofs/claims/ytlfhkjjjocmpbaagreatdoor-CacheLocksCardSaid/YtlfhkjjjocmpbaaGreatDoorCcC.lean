/-
  What the smallest functions of package cache do: those that only tell.
-/
import Derived.Test.YtlfhkjjjocmpbaaGreatDoorCcB
namespace Go.Proofs.YtlfhkjjjocmpbaaGreatDoor.Cc
open Go Go.RowKit

variable {w0 w w' : World} {bx : Bx} {K : Kb} {c : Cfg} {core n : Int} {s : St}
theorem lets_any (x : Ar.Wy) (q : Bool) (w : World) :
    Calls Tryz.prog 49 #[.agg (Ar.ycells x), .bool q] w fun e w' => e = .returned (.bool (letsB x q)) ∧ Below w.heap.size w w' := by
  have hb := b_alloc w (.cells (Ar.ycells x) 66)
  cases q
  · go_enter Tryz.func49, Tryz.ntmps49
    go_wp2
    all_goals go_ret
    all_goals exact ⟨ret_bool (by simp_all [letsB]), hb⟩
  · go_enter Tryz.func49, Tryz.ntmps49
    go_wp2
    all_goals go_ret
    all_goals exact ⟨ret_bool (by simp_all [letsB]), hb⟩
theorem owned_any (x : Ar.Wy) (w : World) :
    Calls Tryz.prog 139 #[.agg (Ar.ycells x)] w fun e w' => e = .returned (.bool (ownsB x)) ∧ Below w.heap.size w w' := by
  have hb := b_alloc w (.cells (Ar.ycells x) 66)
  rcases Bool.eq_false_or_eq_true (x.st == 3) with h | h
  · have HT : Hid (ownsB x = true) := Lib.hid (by simp [ownsB, h])
    go_enter Tryz.func139, Tryz.ntmps139
    go_wp2_with (go_at_call 49; refine (lets_any x true _).mono ?_; rintro e w1 ⟨rfl, hb1⟩)
    go_ret
    exact ⟨ret_bool HT.out.symm, hb⟩
  · have HT : Hid (ownsB x = letsB x true) := Lib.hid (by simp [ownsB, h])
    go_enter Tryz.func139, Tryz.ntmps139
    go_wp2_with (go_at_call 49; refine (lets_any x true _).mono ?_; rintro e w1 ⟨rfl, hb1⟩)
    go_ret
    exact ⟨ret_bool HT.out.symm, b_step hb hb1⟩

/-! What Take answers. -/
def RetT (r : Rp) (P : World → Prop) (e : Ending) (w' : World) : Prop := e = .returned (.tuple #[mv r.1, .bool r.2.1, .int .i64 r.2.2]) ∧ P w'
theorem nothing_any (w : World) : Calls Tryz.prog 146 #[] w (RetT (m0, false, 0) (Below w.heap.size w)) := by
  go_enter Tryz.func146, Tryz.ntmps146
  go_wp2
  exact bodyPost_ret (v := .tuple #[.agg (mcells m0), .bool false, .int .i64 0]) (Ar.results_cell_three Tryz.results146 _ _ w.heap.size 38 _ (0, 0) _ rfl (heap_alloc_new w _) Tryz.underlying38 rfl (by kernel_rfl)) rfl ⟨rfl, b_alloc w _⟩
theorem noEntry_any (w : World) : Calls Tryz.prog 140 #[] w (RetT (m0, false, 7) (Below w.heap.size w)) := by
  go_enter Tryz.func140, Tryz.ntmps140
  go_wp2
  exact bodyPost_ret (v := .tuple #[.agg (mcells m0), .bool false, .int .i64 7]) (Ar.results_cell_three Tryz.results140 _ _ w.heap.size 38 _ (0, 0) _ rfl (heap_alloc_new w _) Tryz.underlying38 rfl (by kernel_rfl)) rfl ⟨rfl, b_alloc w _⟩

/-! Look, Way, Misses, Written. -/
theorem Own.misses (h : OwnP w0 K c core n s bx w) :
    Calls Tryz.prog 28 #[ptr K.k] w fun e w' => ∃ p cap, e = .returned (.slice p s.F.length cap) ∧ Mh.MsIn w' p s.F ∧ Below w.heap.size w w' := by
  have HL := Lib.hid h.mlist
  have hk := h.kc
  clear h
  go_enter Tryz.func28, Tryz.ntmps28
  go_wp2_with (go_at_call 67; refine HL.out.mono ?_; rintro e w1 ⟨p, cap, rfl, hi, hb1⟩)
  go_ret
  exact ⟨p, cap, rfl, hi, hb1⟩
theorem Own.written (h : OwnP w0 K c core n s bx w) :
    Calls Tryz.prog 27 #[ptr K.k] w fun e w' => ∃ p cap, e = .returned (.slice p s.B.length cap) ∧ Wb.EnIn w' p s.B ∧ Below w.heap.size w w' := by
  have HL := Lib.hid h.blist
  have hk := h.kc
  clear h
  go_enter Tryz.func27, Tryz.ntmps27
  go_wp2_with (go_at_call 66; refine HL.out.mono ?_; rintro e w1 ⟨p, cap, rfl, hi, hb1⟩)
  go_ret
  exact ⟨p, cap, rfl, hi, hb1⟩
theorem Own.way (h : OwnP w0 K c core n s bx w) (set way : Int) :
    Calls Tryz.prog 21 #[ptr K.k, .int .i64 set, .int .i64 way] w fun e w' => e = .returned (.tuple #[.agg (Ar.ycells (atP c s set way).1), .bool (atP c s set way).2]) ∧ Below w.heap.size w w' := by
  have H0 := Lib.hid (h.add (.cells #[.int .i64 0, .int .i64 0, .int .i64 0, .int .i64 0, .int .i64 0, .int .i64 0, .int .i64 0, .int .i64 0, .int .i64 0, .int .i64 0, .bool false] 66))
  have HA := Lib.hid (H0.out.at set way)
  have hk := H0.out.kc
  clear h
  generalize atP c s set way = r at *
  go_enter Tryz.func21, Tryz.ntmps21
  go_wp2_with (first
    | (go_at_call 51; refine HA.out.mono ?_; rintro e w1 ⟨rfl, hb1⟩; have h4 := (H0.out.step hb1).box (List.mem_cons_self ..))
    | ((with_reducible refine wpList_store_row (o := ⟨none, _, _, _, _, _⟩) rfl 66 (.tmp 6) (.tmp 15) rfl (w.heap.size) (Ar.ycells r.1) ?sx ?sy 66 ?old ?sg ?si ?so ?s1 ?_); (case sx => rfl); (case sy => rfl); (case old => exact #[.int .i64 0, .int .i64 0, .int .i64 0, .int .i64 0, .int .i64 0, .int .i64 0, .int .i64 0, .int .i64 0, .int .i64 0, .int .i64 0, .bool false]); (case sg => exact h4); (case si => kernel_rfl); (case so => rfl); (case s1 => kernel_rfl)))
  exact bodyPost_ret (v := .tuple #[.agg (Ar.ycells r.1), .bool r.2]) (Ar.results_cell_two Tryz.results21 _ _ w.heap.size 66 _ (0, 0) _ rfl (setRow_heap _ _ _ _ _ _ h4) Tryz.underlying66 rfl (by kernel_rfl)) rfl ⟨rfl, b_setRow ((b_alloc w _).trans (hb1.mono (by simp))) (Nat.le_refl _) _⟩
theorem Own.look (h : OwnP w0 K c core n s bx w) (line : Int) :
    Calls Tryz.prog 16 #[ptr K.k, .int .i64 line] w fun e w' => e = .returned (.tuple #[.agg (Ar.ycells (look c s line)), .bool (there c s line)]) ∧ Below w.heap.size w w' := by
  have H0 := Lib.hid (h.add (.cells #[.int .i64 0, .int .i64 0, .int .i64 0, .int .i64 0, .int .i64 0, .int .i64 0, .int .i64 0, .int .i64 0, .int .i64 0, .int .i64 0, .bool false] 66))
  have HA := Lib.hid (H0.out.find line)
  have hk := H0.out.kc
  clear h
  generalize Go.Proofs.YtlfhkjjjocmpbaaGreatDoor.Cc.look c s line = x at *
  generalize there c s line = q at *
  go_enter Tryz.func16, Tryz.ntmps16
  go_wp2_with (first
    | (go_at_call 41; refine HA.out.mono ?_; rintro e w1 ⟨i, rfl, hb1⟩; have h4 := ((H0.out.step hb1).step (b_alloc w1 (.cells (Ar.ycells x) 66))).box (List.mem_cons_self ..))
    | ((with_reducible refine wpList_store_row (o := ⟨none, _, _, _, _, _⟩) rfl 66 (.tmp 4) (.tmp 19) rfl (w.heap.size) (Ar.ycells x) ?sx ?sy 66 ?old ?sg ?si ?so ?s1 ?_); (case sx => rfl); (case sy => rfl); (case old => exact #[.int .i64 0, .int .i64 0, .int .i64 0, .int .i64 0, .int .i64 0, .int .i64 0, .int .i64 0, .int .i64 0, .int .i64 0, .int .i64 0, .bool false]); (case sg => exact h4); (case si => kernel_rfl); (case so => rfl); (case s1 => kernel_rfl)))
  exact bodyPost_ret (v := .tuple #[.agg (Ar.ycells x), .bool q]) (Ar.results_cell_two Tryz.results16 _ _ w.heap.size 66 _ (0, 0) _ rfl (setRow_heap _ _ _ _ _ _ h4) Tryz.underlying66 rfl (by kernel_rfl)) rfl ⟨rfl, b_setRow ((b_alloc w _).trans ((b_step hb1 (b_alloc _ _)).mono (by simp))) (Nat.le_refl _) _⟩

end Go.Proofs.YtlfhkjjjocmpbaaGreatDoor.Cc
