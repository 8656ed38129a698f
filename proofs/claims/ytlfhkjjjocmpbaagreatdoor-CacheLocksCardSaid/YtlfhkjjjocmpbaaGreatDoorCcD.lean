/-
  What isBusy, toHome, wordsOf, becomeOf and refusal do.
-/
import Derived.Test.YtlfhkjjjocmpbaaGreatDoorCcC
namespace Go.Proofs.YtlfhkjjjocmpbaaGreatDoor.Cc
open Go Go.RowKit

variable {w0 w w' : World} {bx : Bx} {K : Kb} {c : Cfg} {core n : Int} {s : St}
theorem Own.busy (h : OwnP w0 K c core n s bx w) (line : Int) :
    Calls Tryz.prog 116 #[ptr K.k, .int .i64 line] w fun e w' => e = .returned (.bool (busyB s line)) ∧ Below w.heap.size w w' := by
  have HM := Lib.hid (h.mget line)
  have HB := Lib.hid (fun w1 (hb : Below w.heap.size w w1) => (h.step hb).bget line)
  have HK := Lib.hid (fun w1 (hb : Below w.heap.size w w1) => (h.step hb).kc)
  have hk := h.kc
  unfold busyB
  clear h
  generalize Mh.getP s.F line = r at *
  generalize Wb.getP s.B line = r2 at *
  obtain ⟨x, q⟩ := r
  obtain ⟨y, q2⟩ := r2
  cases q
  all_goals
    go_enter Tryz.func116, Tryz.ntmps116
    go_wp2_with fail
    refine HM.out.mono ?_
    rintro e w1 ⟨rfl, hb1⟩
    have HA := Lib.hid (b_step hb1 (b_alloc w1 (.cells (Mh.mcells x) 117)))
    have hk2 := HK.out _ HA.out
    go_wp2_with fail
    refine (HB.out _ HA.out).mono ?_
    rintro e w2 ⟨rfl, hb2⟩
    have HA2 := Lib.hid (b_step HA.out hb2)
    clear hk2
    go_wp2
    go_ret
    exact ⟨rfl, b_step HA2.out (b_alloc _ _)⟩

def RetM (m : Msg) (P : World → Prop) (e : Ending) (w' : World) : Prop := e = .returned (mv m) ∧ P w'
theorem Own.toHome {kind line : Int} (h : OwnP w0 K c core n s bx w) :
    Calls Tryz.prog 54 #[ptr K.k, .int .i64 kind, .int .i64 line] w (RetM (toHomeP c core kind line) (Below w.heap.size w)) := by
  have H0 := Lib.hid (h.add (.cells #[.int .i64 0, .int .i64 0, .int .i64 0, .int .i64 0, .int .i64 0, .int .i64 0, .int .i64 0, .int .i64 0, .int .i64 0, .int .i64 0, .int .i64 0, .int .i64 0, .int .i64 0, .int .i64 0, .int .i64 0] 38))
  have HL := Lib.hid (H0.out.line line)
  have hk := H0.out.kc
  have hz := b_alloc w (.cells #[.int .i64 0, .int .i64 0, .int .i64 0, .int .i64 0, .int .i64 0, .int .i64 0, .int .i64 0, .int .i64 0, .int .i64 0, .int .i64 0, .int .i64 0, .int .i64 0, .int .i64 0, .int .i64 0, .int .i64 0] 38)
  have HZ := Lib.hid hz
  clear h hz
  go_enter Tryz.func54, Tryz.ntmps54
  go_wp2_with fail
  refine HL.out.mono ?_
  rintro e w1 ⟨rfl, hb1⟩
  have H1 := Lib.hid (H0.out.step hb1)
  have hk1 := H1.out.kc
  have h6 := H1.out.box (List.mem_cons_self ..)
  go_wp2_with ((with_reducible refine wpList_store_row (o := ⟨none, _, _, _, _, _⟩) rfl 38 (.tmp 6) (.tmp 29) rfl (w.heap.size) (mcells (toHomeP c core kind line)) ?sx ?sy 38 ?old ?sg ?si ?so ?s1 ?_); (case sx => rfl); (case sy => rfl); (case old => exact #[.int .i64 0, .int .i64 0, .int .i64 0, .int .i64 0, .int .i64 0, .int .i64 0, .int .i64 0, .int .i64 0, .int .i64 0, .int .i64 0, .int .i64 0, .int .i64 0, .int .i64 0, .int .i64 0, .int .i64 0]); (case sg => exact h6); (case si => kernel_rfl); (case so => rfl); (case s1 => kernel_rfl))
  exact bodyPost_ret (v := mv (toHomeP c core kind line)) (results_cell_row Tryz.results54 _ _ w.heap.size 38 _ (0, 0) _ rfl (setRow_heap _ _ _ _ _ _ h6) Tryz.underlying38 rfl (by kernel_rfl)) rfl ⟨rfl, b_setRow (HZ.out.trans (hb1.mono (by simp))) (Nat.le_refl _) _⟩

def RetW (d : Wd) (P : World → Prop) (e : Ending) (w' : World) : Prop := e = .returned (.agg (dcells d)) ∧ P w'
theorem Own.wordsOf (h : OwnP w0 K c core n s bx w) (x : Mh.Ms) :
    Calls Tryz.prog 157 #[ptr K.k, .agg (Mh.mcells x)] w (RetW (wordsP c s x) (Below w.heap.size w)) := by
  have H0 := Lib.hid ((h.add (.cells (Mh.mcells x) 117)).add (.cells #[.int .i64 0, .int .i64 0, .int .i64 0, .int .i64 0, .int .i64 0, .int .i64 0, .int .i64 0, .int .i64 0] 36))
  have HZ := Lib.hid (b_step (b_alloc w (.cells (Mh.mcells x) 117)) (b_alloc _ (.cells #[.int .i64 0, .int .i64 0, .int .i64 0, .int .i64 0, .int .i64 0, .int .i64 0, .int .i64 0, .int .i64 0] 36)))
  have HL := Lib.hid (H0.out.look x.ln)
  have h4 := H0.out.box (List.mem_cons_self ..)
  rw [show (w.alloc (.cells (Mh.mcells x) 117)).heap.size = w.heap.size + 1 by simp] at h4
  have hx := H0.out.cells (List.mem_cons_of_mem _ (List.mem_cons_self ..))
  clear h
  obtain ⟨ln, kd, nd, gt, ow, wd, gr, os⟩ := x
  cases gr
  · go_enter Tryz.func157, Tryz.ntmps157
    go_wp2_with ((with_reducible refine wpList_store_row (o := ⟨none, _, _, _, _, _⟩) rfl 36 (.tmp 4) (.tmp 11) rfl (w.heap.size + 1) (dcells wd) ?sx ?sy 36 ?old ?sg ?si ?so ?s1 ?_); (case sx => rfl); (case sy => rfl); (case old => exact #[.int .i64 0, .int .i64 0, .int .i64 0, .int .i64 0, .int .i64 0, .int .i64 0, .int .i64 0, .int .i64 0]); (case sg => exact h4); (case si => kernel_rfl); (case so => rfl); (case s1 => kernel_rfl))
    exact bodyPost_ret (v := .agg (dcells wd)) (results_cell_row Tryz.results157 _ _ (w.heap.size + 1) 36 _ (0, 0) _ rfl (setRow_heap _ _ _ _ _ _ h4) Tryz.underlying36 rfl (by kernel_rfl)) rfl ⟨rfl, b_setRow HZ.out (by omega) _⟩
  · show Calls _ _ _ _ (RetW (Go.Proofs.YtlfhkjjjocmpbaaGreatDoor.Cc.look c s ln).wd _)
    generalize Go.Proofs.YtlfhkjjjocmpbaaGreatDoor.Cc.look c s ln = y at *
    generalize there c s ln = q at *
    go_enter Tryz.func157, Tryz.ntmps157
    go_wp2_with fail
    refine HL.out.mono ?_
    rintro e w1 ⟨rfl, hb1⟩
    have HB := Lib.hid (b_step HZ.out hb1)
    have h5 := ((H0.out.step hb1).step (b_alloc w1 (.cells (Ar.ycells y) 66))).box (List.mem_cons_self ..)
    rw [show (w.alloc (.cells (Mh.mcells ⟨ln, kd, nd, gt, ow, wd, true, os⟩) 117)).heap.size = w.heap.size + 1 by simp] at h5
    clear hx h4
    go_wp2_with ((with_reducible refine wpList_store_row (o := ⟨none, _, _, _, _, _⟩) rfl 36 (.tmp 4) (.tmp 20) rfl (w.heap.size + 1) (dcells y.wd) ?sx ?sy 36 ?old ?sg ?si ?so ?s1 ?_); (case sx => rfl); (case sy => rfl); (case old => exact #[.int .i64 0, .int .i64 0, .int .i64 0, .int .i64 0, .int .i64 0, .int .i64 0, .int .i64 0, .int .i64 0]); (case sg => exact h5); (case si => kernel_rfl); (case so => rfl); (case s1 => kernel_rfl))
    exact bodyPost_ret (v := .agg (dcells y.wd)) (results_cell_row Tryz.results157 _ _ (w.heap.size + 1) 36 _ (0, 0) _ rfl (setRow_heap _ _ _ _ _ _ h5) Tryz.underlying36 rfl (by kernel_rfl)) rfl ⟨rfl, b_setRow (b_step HB.out (b_alloc _ _)) (by omega) _⟩

/-- What becomes of a message, as a function value. -/
abbrev fv (k : Nat) : Value := .func (.func k) #[] #[]
def becomeV (k : Int) : Value :=
  if k = 4 then fv 105 else if k = 5 then fv 106 else if k = 6 then fv 107 else if k = 7 then fv 108
  else if k = 8 then fv 109 else if k = 9 then fv 110 else if k = 10 then fv 111 else .nilFunc
theorem become_any (k : Int) (w : World) :
    Calls Tryz.prog 55 #[.int .i64 k] w fun e w' => e = .returned (becomeV k) ∧ w = w' := by
  go_enter Tryz.func55, Tryz.ntmps55
  go_wp2
  all_goals go_ret
  all_goals exact ⟨by simp_all [becomeV], rfl⟩

end Go.Proofs.YtlfhkjjjocmpbaaGreatDoor.Cc
