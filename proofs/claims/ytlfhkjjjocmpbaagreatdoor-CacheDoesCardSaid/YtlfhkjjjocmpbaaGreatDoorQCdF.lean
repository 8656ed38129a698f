import Derived.Test.YtlfhkjjjocmpbaaGreatDoorSx
import Derived.Test.YtlfhkjjjocmpbaaGreatDoorQCdE
import Derived.Test.YtlfhkjjjocmpbaaGreatDoorQCcO
import Derived.Test.YtlfhkjjjocmpbaaGreatDoorMsP2
import Derived.Lib.QuietBelow
import Derived.StillTailTactics

namespace Go.Proofs.YtlfhkjjjocmpbaaGreatDoor.Cc
open Go Go.RowKit

variable {w0 w w' : World} {bx : Bx} {K : Kb} {c : Cfg} {core n : Int} {s : St}
theorem dtake_ret {wr : World} {r : Rp} {P : World → Prop} {a : Act} {g : Nat} (hp : a.tmps.getD 4 undef = .pointer (some ⟨g, 0, none⟩)) (hq : a.tmps.getD 5 undef = .bool r.2.1) (hn : a.tmps.getD 6 undef = .int .i64 r.2.2) (hd : a.defers = []) (hg : wr.heap[g]? = some (.cells (mcells r.1) 38 (0, 0))) (hb : P wr) :
  bodyPost Tryz.prog Tryz.f38 (RetT r P) Exit.ret a wr :=
 bodyPost_ret (v := .tuple #[mv r.1, a.tmps.getD 5 undef, a.tmps.getD 6 undef]) (Ar.results_cell_three Tryz.results38 _ _ g 38 _ (0, 0) _ hp hg Tryz.underlying38 rfl (by kernel_rfl)) hd ⟨by rw [hq, hn], hb⟩
set_option maxRecDepth 100000 in
set_option maxHeartbeats 8000000 in
theorem dtake_no (h : OwnD w0 K c core n s bx w) (m : Msg) (hm : ¬ (mayM c m = true ∧ toHome m.kd = false ∧ m.to = core)) :
  Calls Tryz.prog 38 #[ptr K.k, mv m] w (RetT (m0, false, 1) (OwnD w0 K c core n s bx)) := by
 have H0 := Lib.hid (h.add3 (.cells (mcells m) 38) (.cells #[.int .i64 0, .int .i64 0, .int .i64 0, .int .i64 0, .int .i64 0, .int .i64 0, .int .i64 0, .int .i64 0, .int .i64 0, .int .i64 0, .int .i64 0, .int .i64 0, .int .i64 0, .int .i64 0, .int .i64 0] 38) (.cells #[.int .i64 0, .int .i64 0, .int .i64 0, .int .i64 0, .int .i64 0, .int .i64 0, .int .i64 0, .int .i64 0, .int .i64 0, .int .i64 0, .int .i64 0, .int .i64 0, .int .i64 0, .int .i64 0, .int .i64 0] 38))
 have HMy := Lib.hid (fun w => refMay_any c m w)
 have HHo := Lib.hid (fun w => refHome_any m.kd w)
 have hq : mayM c m = false ∨ mayM c m = true ∧ (toHome m.kd = true ∨ toHome m.kd = false ∧ (m.to != core) = true) := by
  rcases Bool.eq_false_or_eq_true (mayM c m) with q | q
  ·rcases Bool.eq_false_or_eq_true (toHome m.kd) with q2 | q2
   ·exact .inr ⟨q, .inl q2⟩
   ·exact .inr ⟨q, .inr ⟨q2, by simpa using fun e => hm ⟨q, q2, e⟩⟩⟩
  ·exact .inl q
 clear hm
 clear h
 go_enter Tryz.func38, Tryz.ntmps38
 go_upto_region 2 with fail
 obtain ⟨w1, hw1⟩ : ∃ w1, w1 = ((w.alloc (.cells (mcells m) 38)).alloc (.cells #[.int .i64 0, .int .i64 0, .int .i64 0, .int .i64 0, .int .i64 0, .int .i64 0, .int .i64 0, .int .i64 0, .int .i64 0, .int .i64 0, .int .i64 0, .int .i64 0, .int .i64 0, .int .i64 0, .int .i64 0] 38)).alloc (.cells #[.int .i64 0, .int .i64 0, .int .i64 0, .int .i64 0, .int .i64 0, .int .i64 0, .int .i64 0, .int .i64 0, .int .i64 0, .int .i64 0, .int .i64 0, .int .i64 0, .int .i64 0, .int .i64 0, .int .i64 0] 38) := ⟨_, rfl⟩
 rw [← hw1] at H0
 have H1 := H0
 change Code.wp _ _ _ _ (((w.alloc (.cells (mcells m) 38)).alloc (.cells #[.int .i64 0, .int .i64 0, .int .i64 0, .int .i64 0, .int .i64 0, .int .i64 0, .int .i64 0, .int .i64 0, .int .i64 0, .int .i64 0, .int .i64 0, .int .i64 0, .int .i64 0, .int .i64 0, .int .i64 0] 38)).alloc (.cells #[.int .i64 0, .int .i64 0, .int .i64 0, .int .i64 0, .int .i64 0, .int .i64 0, .int .i64 0, .int .i64 0, .int .i64 0, .int .i64 0, .int .i64 0, .int .i64 0, .int .i64 0, .int .i64 0, .int .i64 0] 38))
 rw [← hw1]
 clear hw1 H0
 generalize mayM c m = qm at *
 generalize toHome m.kd = qh at *
 rcases hq with rfl | ⟨rfl, rfl | ⟨rfl, hto⟩⟩
 all_goals
  have HR := Lib.hid (fun d os => H1.out.step (below_regrown w1 d os))
  have hck := fun o d os => (HR.out d os).kc o
  have hcm := fun o d os => (HR.out d os).cells mz2 o
  refine wp_region_quiet_below (by kernel_rfl) (by kernel_rfl) ?_
  repeat (go_big_quiet_step (first
   | (go_at_call 79; exact Calls.regrown_of (HMy.out _))
   | (go_at_call 80; exact Calls.regrown_of (HHo.out _))))
  refine wpQuiet_nil ?_
  intro w2 hw2
  have hb2 : Below w1.heap.size w1 w2 := by
   obtain ⟨pp, rfl⟩ := hw2
   exact below_regrown _ _ _
  have H2 := Lib.hid (H1.out.step hb2)
  clear hw2 hb2 hck hcm HR H1 HMy HHo
  have h4 := H2.out.box mz1
  have h7 := H2.out.box mz0
  go_wp2_with (first
   | ((with_reducible refine wpList_load_row (o := ⟨some 38, _, _, _, _, _⟩) rfl 38 (.tmp 7) rfl (w.heap.size + 2) ?lx 38 (#[.int .i64 0, .int .i64 0, .int .i64 0, .int .i64 0, .int .i64 0, .int .i64 0, .int .i64 0, .int .i64 0, .int .i64 0, .int .i64 0, .int .i64 0, .int .i64 0, .int .i64 0, .int .i64 0, .int .i64 0]) (0, 0) _ ?lg Tryz.underlying38 ?ld ?li ?_); (case lx => rfl); (case lg => exact h7); (case ld => rfl); (case li => kernel_rfl))
   | ((with_reducible refine wpList_store_row (o := ⟨none, _, _, _, _, _⟩) rfl 38 (.tmp 4) (.tmp 38) rfl (w.heap.size + 1) (#[.int .i64 0, .int .i64 0, .int .i64 0, .int .i64 0, .int .i64 0, .int .i64 0, .int .i64 0, .int .i64 0, .int .i64 0, .int .i64 0, .int .i64 0, .int .i64 0, .int .i64 0, .int .i64 0, .int .i64 0]) ?sx ?sy 38 ?old ?sg ?si ?so ?s1 ?_); (case sx => rfl); (case sy => rfl); (case old => exact #[.int .i64 0, .int .i64 0, .int .i64 0, .int .i64 0, .int .i64 0, .int .i64 0, .int .i64 0, .int .i64 0, .int .i64 0, .int .i64 0, .int .i64 0, .int .i64 0, .int .i64 0, .int .i64 0, .int .i64 0]); (case sg => exact h4); (case si => kernel_rfl); (case so => rfl); (case s1 => kernel_rfl)))
  exact dtake_ret (r := (m0, false, 1)) rfl rfl rfl rfl (setRow_heap _ _ _ _ _ _ h4) H2.out.setRow1.drop.drop.drop
set_option maxRecDepth 100000 in
set_option maxHeartbeats 8000000 in
theorem dtake_fwd (h : OwnD w0 K c core n s bx w) (m : Msg) (hm : mayM c m = true) (hh : toHome m.kd = false) (hto : (m.to != core) = false) (k45 : (m.kd == 4) = true ∨ (m.kd == 4) = false ∧ (m.kd == 5) = true) {mm : Msg} {is : Bool} {er : Int} {s2 : St} (hf : ∀ w bx, OwnD w0 K c core n s bx w → Calls Tryz.prog 81 #[ptr K.k, mv m] w (RetT (mm, is, er) (OwnD w0 K c core n s2 bx))) :
  Calls Tryz.prog 38 #[ptr K.k, mv m] w (RetT (mm, is, er) (OwnD w0 K c core n s2 bx)) := by
 have H0 := Lib.hid (h.add3 (.cells (mcells m) 38) (.cells #[.int .i64 0, .int .i64 0, .int .i64 0, .int .i64 0, .int .i64 0, .int .i64 0, .int .i64 0, .int .i64 0, .int .i64 0, .int .i64 0, .int .i64 0, .int .i64 0, .int .i64 0, .int .i64 0, .int .i64 0] 38) (.cells #[.int .i64 0, .int .i64 0, .int .i64 0, .int .i64 0, .int .i64 0, .int .i64 0, .int .i64 0, .int .i64 0, .int .i64 0, .int .i64 0, .int .i64 0, .int .i64 0, .int .i64 0, .int .i64 0, .int .i64 0] 38))
 have HMy := Lib.hid (fun w => refMay_any c m w)
 have HHo := Lib.hid (fun w => refHome_any m.kd w)
 rw [hm] at HMy
 rw [hh] at HHo
 clear hm hh
 have HF := Lib.hid hf
 clear hf
 clear h
 go_enter Tryz.func38, Tryz.ntmps38
 go_upto_region 2 with fail
 obtain ⟨w1, hw1⟩ : ∃ w1, w1 = ((w.alloc (.cells (mcells m) 38)).alloc (.cells #[.int .i64 0, .int .i64 0, .int .i64 0, .int .i64 0, .int .i64 0, .int .i64 0, .int .i64 0, .int .i64 0, .int .i64 0, .int .i64 0, .int .i64 0, .int .i64 0, .int .i64 0, .int .i64 0, .int .i64 0] 38)).alloc (.cells #[.int .i64 0, .int .i64 0, .int .i64 0, .int .i64 0, .int .i64 0, .int .i64 0, .int .i64 0, .int .i64 0, .int .i64 0, .int .i64 0, .int .i64 0, .int .i64 0, .int .i64 0, .int .i64 0, .int .i64 0] 38) := ⟨_, rfl⟩
 rw [← hw1] at H0
 have H1 := H0
 change Code.wp _ _ _ _ (((w.alloc (.cells (mcells m) 38)).alloc (.cells #[.int .i64 0, .int .i64 0, .int .i64 0, .int .i64 0, .int .i64 0, .int .i64 0, .int .i64 0, .int .i64 0, .int .i64 0, .int .i64 0, .int .i64 0, .int .i64 0, .int .i64 0, .int .i64 0, .int .i64 0] 38)).alloc (.cells #[.int .i64 0, .int .i64 0, .int .i64 0, .int .i64 0, .int .i64 0, .int .i64 0, .int .i64 0, .int .i64 0, .int .i64 0, .int .i64 0, .int .i64 0, .int .i64 0, .int .i64 0, .int .i64 0, .int .i64 0] 38))
 rw [← hw1]
 clear hw1 H0
 have HR := Lib.hid (fun d os => H1.out.step (below_regrown w1 d os))
 have hck := fun o d os => (HR.out d os).kc o
 have hcm := fun o d os => (HR.out d os).cells mz2 o
 refine wp_region_quiet_below (by kernel_rfl) (by kernel_rfl) ?_
 repeat (go_big_quiet_step (first
  | (go_at_call 79; exact Calls.regrown_of (HMy.out _))
  | (go_at_call 80; exact Calls.regrown_of (HHo.out _))))
 refine wpQuiet_nil ?_
 intro w2 hw2
 have hb2 : Below w1.heap.size w1 w2 := by
  obtain ⟨pp, rfl⟩ := hw2
  exact below_regrown _ _ _
 have H2 := Lib.hid (H1.out.step hb2)
 clear hw2 hb2 hck hcm HR H1 HMy HHo
 rcases k45 with k4 | ⟨k4, k5⟩
 all_goals
  have h3 := H2.out.box mz2
  have h4 := H2.out.box mz1
  have hm2 := H2.out.cells mz2
  go_upto_region 5 with fail
  go_wp2_with (first
   | ((with_reducible refine wpList_load_row (o := ⟨some 48, _, _, _, _, _⟩) rfl 38 (.tmp 3) rfl (w.heap.size) ?lx 38 (mcells m) (0, 0) _ ?lg Tryz.underlying38 ?ld ?li ?_); (case lx => rfl); (case lg => exact h3); (case ld => rfl); (case li => kernel_rfl)))
  clear hm2 h3 h4
  refine (HF.out _ _ H2.out).mono ?_
  rintro e w3 ⟨rfl, ho⟩
  have H3 := Lib.hid ho
  have h4 := H3.out.box mz1
  clear ho H2
  go_wp2_with (first
   | ((with_reducible refine wpList_store_row (o := ⟨none, _, _, _, _, _⟩) rfl 38 (.tmp 4) (.tmp 50) rfl (w.heap.size + 1) (mcells mm) ?sx ?sy 38 ?old ?sg ?si ?so ?s1 ?_); (case sx => rfl); (case sy => rfl); (case old => exact #[.int .i64 0, .int .i64 0, .int .i64 0, .int .i64 0, .int .i64 0, .int .i64 0, .int .i64 0, .int .i64 0, .int .i64 0, .int .i64 0, .int .i64 0, .int .i64 0, .int .i64 0, .int .i64 0, .int .i64 0]); (case sg => exact h4); (case si => kernel_rfl); (case so => rfl); (case s1 => kernel_rfl)))
  exact dtake_ret (r := (mm, is, er)) rfl rfl rfl rfl (setRow_heap _ _ _ _ _ _ h4) H3.out.setRow1.drop.drop.drop
set_option maxRecDepth 100000 in
set_option maxHeartbeats 8000000 in
theorem dtake_inv_no (h : OwnD w0 K c core n s bx w) (m : Msg) (hm : mayM c m = true) (hh : toHome m.kd = false) (hto : (m.to != core) = false) (k4 : (m.kd == 4) = false) (k5 : (m.kd == 5) = false) (k6 : (m.kd == 6) = true) {st : Int} (hy : (look c s m.ln).st = st) (g2 : 2 ≤ st) :
  Calls Tryz.prog 38 #[ptr K.k, mv m] w (RetT (m0, false, 7) (OwnD w0 K c core n s bx)) := by
 have H0 := Lib.hid (h.add3 (.cells (mcells m) 38) (.cells #[.int .i64 0, .int .i64 0, .int .i64 0, .int .i64 0, .int .i64 0, .int .i64 0, .int .i64 0, .int .i64 0, .int .i64 0, .int .i64 0, .int .i64 0, .int .i64 0, .int .i64 0, .int .i64 0, .int .i64 0] 38) (.cells #[.int .i64 0, .int .i64 0, .int .i64 0, .int .i64 0, .int .i64 0, .int .i64 0, .int .i64 0, .int .i64 0, .int .i64 0, .int .i64 0, .int .i64 0, .int .i64 0, .int .i64 0, .int .i64 0, .int .i64 0] 38))
 have HMy := Lib.hid (fun w => refMay_any c m w)
 have HHo := Lib.hid (fun w => refHome_any m.kd w)
 rw [hm] at HMy
 rw [hh] at HHo
 clear hm hh
 have HSt := Lib.hid (fun w1 bx (h : OwnD w0 K c core n s bx w1) => h.dstate m.ln)
 rw [hy] at HSt
 clear hy
 clear h
 go_enter Tryz.func38, Tryz.ntmps38
 go_upto_region 2 with fail
 obtain ⟨w1, hw1⟩ : ∃ w1, w1 = ((w.alloc (.cells (mcells m) 38)).alloc (.cells #[.int .i64 0, .int .i64 0, .int .i64 0, .int .i64 0, .int .i64 0, .int .i64 0, .int .i64 0, .int .i64 0, .int .i64 0, .int .i64 0, .int .i64 0, .int .i64 0, .int .i64 0, .int .i64 0, .int .i64 0] 38)).alloc (.cells #[.int .i64 0, .int .i64 0, .int .i64 0, .int .i64 0, .int .i64 0, .int .i64 0, .int .i64 0, .int .i64 0, .int .i64 0, .int .i64 0, .int .i64 0, .int .i64 0, .int .i64 0, .int .i64 0, .int .i64 0] 38) := ⟨_, rfl⟩
 rw [← hw1] at H0
 have H1 := H0
 change Code.wp _ _ _ _ (((w.alloc (.cells (mcells m) 38)).alloc (.cells #[.int .i64 0, .int .i64 0, .int .i64 0, .int .i64 0, .int .i64 0, .int .i64 0, .int .i64 0, .int .i64 0, .int .i64 0, .int .i64 0, .int .i64 0, .int .i64 0, .int .i64 0, .int .i64 0, .int .i64 0] 38)).alloc (.cells #[.int .i64 0, .int .i64 0, .int .i64 0, .int .i64 0, .int .i64 0, .int .i64 0, .int .i64 0, .int .i64 0, .int .i64 0, .int .i64 0, .int .i64 0, .int .i64 0, .int .i64 0, .int .i64 0, .int .i64 0] 38))
 rw [← hw1]
 clear hw1 H0
 have HR := Lib.hid (fun d os => H1.out.step (below_regrown w1 d os))
 have hck := fun o d os => (HR.out d os).kc o
 have hcm := fun o d os => (HR.out d os).cells mz2 o
 refine wp_region_quiet_below (by kernel_rfl) (by kernel_rfl) ?_
 repeat (go_big_quiet_step (first
  | (go_at_call 79; exact Calls.regrown_of (HMy.out _))
  | (go_at_call 80; exact Calls.regrown_of (HHo.out _))))
 refine wpQuiet_nil ?_
 intro w2 hw2
 have hb2 : Below w1.heap.size w1 w2 := by
  obtain ⟨pp, rfl⟩ := hw2
  exact below_regrown _ _ _
 have H2 := Lib.hid (H1.out.step hb2)
 clear hw2 hb2 hck hcm HR H1 HMy HHo
 have hm2 := H2.out.cells mz2
 go_upto_region 6 with fail
 go_wp2_with fail
 refine (HSt.out _ _ H2.out).mono ?_
 rintro e w3 ⟨rfl, hb3⟩
 have H3 := Lib.hid (H2.out.step hb3)
 have hm3 := H3.out.cells mz2
 clear hb3 H2 hm2
 have h4 := H3.out.box mz1
 have h7 := H3.out.box mz0
 go_wp2_with (first
  | ((with_reducible refine wpList_load_row (o := ⟨some 62, _, _, _, _, _⟩) rfl 38 (.tmp 7) rfl (w.heap.size + 2) ?lx 38 (#[.int .i64 0, .int .i64 0, .int .i64 0, .int .i64 0, .int .i64 0, .int .i64 0, .int .i64 0, .int .i64 0, .int .i64 0, .int .i64 0, .int .i64 0, .int .i64 0, .int .i64 0, .int .i64 0, .int .i64 0]) (0, 0) _ ?lg Tryz.underlying38 ?ld ?li ?_); (case lx => rfl); (case lg => exact h7); (case ld => rfl); (case li => kernel_rfl))
  | ((with_reducible refine wpList_store_row (o := ⟨none, _, _, _, _, _⟩) rfl 38 (.tmp 4) (.tmp 62) rfl (w.heap.size + 1) (#[.int .i64 0, .int .i64 0, .int .i64 0, .int .i64 0, .int .i64 0, .int .i64 0, .int .i64 0, .int .i64 0, .int .i64 0, .int .i64 0, .int .i64 0, .int .i64 0, .int .i64 0, .int .i64 0, .int .i64 0]) ?sx ?sy 38 ?old ?sg ?si ?so ?s1 ?_); (case sx => rfl); (case sy => rfl); (case old => exact #[.int .i64 0, .int .i64 0, .int .i64 0, .int .i64 0, .int .i64 0, .int .i64 0, .int .i64 0, .int .i64 0, .int .i64 0, .int .i64 0, .int .i64 0, .int .i64 0, .int .i64 0, .int .i64 0, .int .i64 0]); (case sg => exact h4); (case si => kernel_rfl); (case so => rfl); (case s1 => kernel_rfl)))
 exact dtake_ret (r := (m0, false, 7)) rfl rfl rfl rfl (setRow_heap _ _ _ _ _ _ h4) H3.out.setRow1.drop.drop.drop
set_option maxRecDepth 100000 in
set_option maxHeartbeats 8000000 in
theorem dtake_inv (h : OwnD w0 K c core n s bx w) (m : Msg) (hm : mayM c m = true) (hh : toHome m.kd = false) (hto : (m.to != core) = false) (k4 : (m.kd == 4) = false) (k5 : (m.kd == 5) = false) (k6 : (m.kd == 6) = true) {st : Int} (hy : (look c s m.ln).st = st) (g2 : ¬ 2 ≤ st) (g1 : (st == 1) = false) :
  Calls Tryz.prog 38 #[ptr K.k, mv m] w (RetT (⟨9, m.ln, core, m.wh, 0, 0, 0, 0, 0, 0, 0, 0, 0, 0, 0⟩, true, 0) (OwnD w0 K c core n s bx)) := by
 have H0 := Lib.hid (h.add3 (.cells (mcells m) 38) (.cells #[.int .i64 0, .int .i64 0, .int .i64 0, .int .i64 0, .int .i64 0, .int .i64 0, .int .i64 0, .int .i64 0, .int .i64 0, .int .i64 0, .int .i64 0, .int .i64 0, .int .i64 0, .int .i64 0, .int .i64 0] 38) (.cells #[.int .i64 0, .int .i64 0, .int .i64 0, .int .i64 0, .int .i64 0, .int .i64 0, .int .i64 0, .int .i64 0, .int .i64 0, .int .i64 0, .int .i64 0, .int .i64 0, .int .i64 0, .int .i64 0, .int .i64 0] 38))
 have HMy := Lib.hid (fun w => refMay_any c m w)
 have HHo := Lib.hid (fun w => refHome_any m.kd w)
 rw [hm] at HMy
 rw [hh] at HHo
 clear hm hh
 have HSt := Lib.hid (fun w1 bx (h : OwnD w0 K c core n s bx w1) => h.dstate m.ln)
 rw [hy] at HSt
 clear hy
 clear h
 go_enter Tryz.func38, Tryz.ntmps38
 go_upto_region 2 with fail
 obtain ⟨w1, hw1⟩ : ∃ w1, w1 = ((w.alloc (.cells (mcells m) 38)).alloc (.cells #[.int .i64 0, .int .i64 0, .int .i64 0, .int .i64 0, .int .i64 0, .int .i64 0, .int .i64 0, .int .i64 0, .int .i64 0, .int .i64 0, .int .i64 0, .int .i64 0, .int .i64 0, .int .i64 0, .int .i64 0] 38)).alloc (.cells #[.int .i64 0, .int .i64 0, .int .i64 0, .int .i64 0, .int .i64 0, .int .i64 0, .int .i64 0, .int .i64 0, .int .i64 0, .int .i64 0, .int .i64 0, .int .i64 0, .int .i64 0, .int .i64 0, .int .i64 0] 38) := ⟨_, rfl⟩
 rw [← hw1] at H0
 have H1 := H0
 change Code.wp _ _ _ _ (((w.alloc (.cells (mcells m) 38)).alloc (.cells #[.int .i64 0, .int .i64 0, .int .i64 0, .int .i64 0, .int .i64 0, .int .i64 0, .int .i64 0, .int .i64 0, .int .i64 0, .int .i64 0, .int .i64 0, .int .i64 0, .int .i64 0, .int .i64 0, .int .i64 0] 38)).alloc (.cells #[.int .i64 0, .int .i64 0, .int .i64 0, .int .i64 0, .int .i64 0, .int .i64 0, .int .i64 0, .int .i64 0, .int .i64 0, .int .i64 0, .int .i64 0, .int .i64 0, .int .i64 0, .int .i64 0, .int .i64 0] 38))
 rw [← hw1]
 clear hw1 H0
 have HR := Lib.hid (fun d os => H1.out.step (below_regrown w1 d os))
 have hck := fun o d os => (HR.out d os).kc o
 have hcm := fun o d os => (HR.out d os).cells mz2 o
 refine wp_region_quiet_below (by kernel_rfl) (by kernel_rfl) ?_
 repeat (go_big_quiet_step (first
  | (go_at_call 79; exact Calls.regrown_of (HMy.out _))
  | (go_at_call 80; exact Calls.regrown_of (HHo.out _))))
 refine wpQuiet_nil ?_
 intro w2 hw2
 have hb2 : Below w1.heap.size w1 w2 := by
  obtain ⟨pp, rfl⟩ := hw2
  exact below_regrown _ _ _
 have H2 := Lib.hid (H1.out.step hb2)
 clear hw2 hb2 hck hcm HR H1 HMy HHo
 have hm2 := H2.out.cells mz2
 go_upto_region 6 with fail
 go_wp2_with fail
 refine (HSt.out _ _ H2.out).mono ?_
 rintro e w3 ⟨rfl, hb3⟩
 have H3 := Lib.hid (H2.out.step hb3)
 have hm3 := H3.out.cells mz2
 clear hb3 H2 hm2
 clear hm3
 have hk4 := H3.out.kc
 have hm4 := H3.out.cells mz2
 go_upto_region 12 with fail
 go_still_tail 9, (by kernel_rfl)
 change wpList _ _ _ _ _ (World.drew _)
 have h4 := H3.out.drew.box mz1
 go_wp2_with (first
  | ((with_reducible refine wpList_store_row (o := ⟨none, _, _, _, _, _⟩) rfl 38 (.tmp 4) (.tmp 81) rfl (w.heap.size + 1) (#[.int .i64 9, .int .i64 m.ln, .int .i64 core, .int .i64 m.wh, .int .i64 0, .int .i64 0, .int .i64 0, .int .i64 0, .int .i64 0, .int .i64 0, .int .i64 0, .int .i64 0, .int .i64 0, .int .i64 0, .int .i64 0]) ?sx ?sy 38 ?old ?sg ?si ?so ?s1 ?_); (case sx => rfl); (case sy => rfl); (case old => exact #[.int .i64 0, .int .i64 0, .int .i64 0, .int .i64 0, .int .i64 0, .int .i64 0, .int .i64 0, .int .i64 0, .int .i64 0, .int .i64 0, .int .i64 0, .int .i64 0, .int .i64 0, .int .i64 0, .int .i64 0]); (case sg => exact h4); (case si => kernel_rfl); (case so => rfl); (case s1 => kernel_rfl)))
 exact dtake_ret (r := (⟨9, m.ln, core, m.wh, 0, 0, 0, 0, 0, 0, 0, 0, 0, 0, 0⟩, true, 0)) rfl rfl rfl rfl (setRow_heap _ _ _ _ _ _ h4) H3.out.drew.setRow1.drop.drop.drop
set_option maxRecDepth 100000 in
set_option maxHeartbeats 8000000 in
theorem dtake_inv_drop (h : OwnD w0 K c core n s bx w) (m : Msg) (hm : mayM c m = true) (hh : toHome m.kd = false) (hto : (m.to != core) = false) (k4 : (m.kd == 4) = false) (k5 : (m.kd == 5) = false) (k6 : (m.kd == 6) = true) {st : Int} (hy : (look c s m.ln).st = st) (g2 : ¬ 2 ≤ st) (g1 : (st == 1) = true) :
  Calls Tryz.prog 38 #[ptr K.k, mv m] w (RetT (⟨9, m.ln, core, m.wh, 0, 0, 0, 0, 0, 0, 0, 0, 0, 0, 0⟩, true, 0) (OwnD w0 K c core n (setA c s m.ln 0 d0) bx)) := by
 have H0 := Lib.hid (h.add3 (.cells (mcells m) 38) (.cells #[.int .i64 0, .int .i64 0, .int .i64 0, .int .i64 0, .int .i64 0, .int .i64 0, .int .i64 0, .int .i64 0, .int .i64 0, .int .i64 0, .int .i64 0, .int .i64 0, .int .i64 0, .int .i64 0, .int .i64 0] 38) (.cells #[.int .i64 0, .int .i64 0, .int .i64 0, .int .i64 0, .int .i64 0, .int .i64 0, .int .i64 0, .int .i64 0, .int .i64 0, .int .i64 0, .int .i64 0, .int .i64 0, .int .i64 0, .int .i64 0, .int .i64 0] 38))
 have HMy := Lib.hid (fun w => refMay_any c m w)
 have HHo := Lib.hid (fun w => refHome_any m.kd w)
 rw [hm] at HMy
 rw [hh] at HHo
 clear hm hh
 have HSt := Lib.hid (fun w1 bx (h : OwnD w0 K c core n s bx w1) => h.dstate m.ln)
 rw [hy] at HSt
 clear hy
 clear h
 go_enter Tryz.func38, Tryz.ntmps38
 go_upto_region 2 with fail
 obtain ⟨w1, hw1⟩ : ∃ w1, w1 = ((w.alloc (.cells (mcells m) 38)).alloc (.cells #[.int .i64 0, .int .i64 0, .int .i64 0, .int .i64 0, .int .i64 0, .int .i64 0, .int .i64 0, .int .i64 0, .int .i64 0, .int .i64 0, .int .i64 0, .int .i64 0, .int .i64 0, .int .i64 0, .int .i64 0] 38)).alloc (.cells #[.int .i64 0, .int .i64 0, .int .i64 0, .int .i64 0, .int .i64 0, .int .i64 0, .int .i64 0, .int .i64 0, .int .i64 0, .int .i64 0, .int .i64 0, .int .i64 0, .int .i64 0, .int .i64 0, .int .i64 0] 38) := ⟨_, rfl⟩
 rw [← hw1] at H0
 have H1 := H0
 change Code.wp _ _ _ _ (((w.alloc (.cells (mcells m) 38)).alloc (.cells #[.int .i64 0, .int .i64 0, .int .i64 0, .int .i64 0, .int .i64 0, .int .i64 0, .int .i64 0, .int .i64 0, .int .i64 0, .int .i64 0, .int .i64 0, .int .i64 0, .int .i64 0, .int .i64 0, .int .i64 0] 38)).alloc (.cells #[.int .i64 0, .int .i64 0, .int .i64 0, .int .i64 0, .int .i64 0, .int .i64 0, .int .i64 0, .int .i64 0, .int .i64 0, .int .i64 0, .int .i64 0, .int .i64 0, .int .i64 0, .int .i64 0, .int .i64 0] 38))
 rw [← hw1]
 clear hw1 H0
 have HR := Lib.hid (fun d os => H1.out.step (below_regrown w1 d os))
 have hck := fun o d os => (HR.out d os).kc o
 have hcm := fun o d os => (HR.out d os).cells mz2 o
 refine wp_region_quiet_below (by kernel_rfl) (by kernel_rfl) ?_
 repeat (go_big_quiet_step (first
  | (go_at_call 79; exact Calls.regrown_of (HMy.out _))
  | (go_at_call 80; exact Calls.regrown_of (HHo.out _))))
 refine wpQuiet_nil ?_
 intro w2 hw2
 have hb2 : Below w1.heap.size w1 w2 := by
  obtain ⟨pp, rfl⟩ := hw2
  exact below_regrown _ _ _
 have H2 := Lib.hid (H1.out.step hb2)
 clear hw2 hb2 hck hcm HR H1 HMy HHo
 have hm2 := H2.out.cells mz2
 go_upto_region 6 with fail
 go_wp2_with fail
 refine (HSt.out _ _ H2.out).mono ?_
 rintro e w3 ⟨rfl, hb3⟩
 have H3 := Lib.hid (H2.out.step hb3)
 have hm3 := H3.out.cells mz2
 clear hb3 H2 hm2
 clear hm3
 have hkh := H3.out.kc
 have hb0 := H3.out.cells mz2
 go_upto_region 11 with fail
 go_region_held3 (fun w' => (∀ o, w'.cell? ⟨K.k, o, none⟩ = (kcells c core K)[o]?) ∧ (∀ o, w'.cell? ⟨w.heap.size, o, none⟩ = (mcells m)[o]?))
  (first | exact ⟨H4.out.kc, H4.out.cells mz2⟩ | exact ⟨hkh, hb0⟩ | go_keep)
  (first
   | (go_at_call 77; refine ((by first | exact H3.out | exact H3.out.drew : OwnD w0 K c core n s _ _).dset m.ln 0 d0).mono ?_; rintro e w4 ⟨⟨i4, rfl⟩, ho⟩; have H4 := Lib.hid ho; clear ho))
 clear hkh hb0
 clear H3
 have hk4 := H4.out.kc
 have hm4 := H4.out.cells mz2
 go_upto_region 12 with fail
 go_still_tail 9, (by kernel_rfl)
 change wpList _ _ _ _ _ (World.drew _)
 have h4 := H4.out.drew.box mz1
 go_wp2_with (first
  | ((with_reducible refine wpList_store_row (o := ⟨none, _, _, _, _, _⟩) rfl 38 (.tmp 4) (.tmp 81) rfl (w.heap.size + 1) (#[.int .i64 9, .int .i64 m.ln, .int .i64 core, .int .i64 m.wh, .int .i64 0, .int .i64 0, .int .i64 0, .int .i64 0, .int .i64 0, .int .i64 0, .int .i64 0, .int .i64 0, .int .i64 0, .int .i64 0, .int .i64 0]) ?sx ?sy 38 ?old ?sg ?si ?so ?s1 ?_); (case sx => rfl); (case sy => rfl); (case old => exact #[.int .i64 0, .int .i64 0, .int .i64 0, .int .i64 0, .int .i64 0, .int .i64 0, .int .i64 0, .int .i64 0, .int .i64 0, .int .i64 0, .int .i64 0, .int .i64 0, .int .i64 0, .int .i64 0, .int .i64 0]); (case sg => exact h4); (case si => kernel_rfl); (case so => rfl); (case s1 => kernel_rfl)))
 exact dtake_ret (r := (⟨9, m.ln, core, m.wh, 0, 0, 0, 0, 0, 0, 0, 0, 0, 0, 0⟩, true, 0)) rfl rfl rfl rfl (setRow_heap _ _ _ _ _ _ h4) H4.out.drew.setRow1.drop.drop.drop
set_option maxRecDepth 100000 in
set_option maxHeartbeats 8000000 in
theorem dtake_drop_no (h : OwnD w0 K c core n s bx w) (m : Msg) (hm : mayM c m = true) (hh : toHome m.kd = false) (hto : (m.to != core) = false) (k4 : (m.kd == 4) = false) (k5 : (m.kd == 5) = false) (k6 : (m.kd == 6) = false) (k7 : (m.kd == 7) = false) (k8 : (m.kd == 8) = false) (k9 : (m.kd == 9) = false) (k10 : (m.kd == 10) = true) {er : Int} {B : List Wb.En} (hd : Wb.dropP s.B m.ln = (er, B)) (g : (er != 0) = true) :
  Calls Tryz.prog 38 #[ptr K.k, mv m] w (RetT (m0, false, 7) (OwnD w0 K c core n { s with B := B } bx)) := by
 have H0 := Lib.hid (h.add3 (.cells (mcells m) 38) (.cells #[.int .i64 0, .int .i64 0, .int .i64 0, .int .i64 0, .int .i64 0, .int .i64 0, .int .i64 0, .int .i64 0, .int .i64 0, .int .i64 0, .int .i64 0, .int .i64 0, .int .i64 0, .int .i64 0, .int .i64 0] 38) (.cells #[.int .i64 0, .int .i64 0, .int .i64 0, .int .i64 0, .int .i64 0, .int .i64 0, .int .i64 0, .int .i64 0, .int .i64 0, .int .i64 0, .int .i64 0, .int .i64 0, .int .i64 0, .int .i64 0, .int .i64 0] 38))
 have HMy := Lib.hid (fun w => refMay_any c m w)
 have HHo := Lib.hid (fun w => refHome_any m.kd w)
 rw [hm] at HMy
 rw [hh] at HHo
 clear hm hh
 have HSt := Lib.hid (fun w1 bx (h : OwnD w0 K c core n s bx w1) => h.dstate m.ln)
 have HD := Lib.hid (fun w1 bx (h : OwnD w0 K c core n s bx w1) => h.ddrop m.ln)
 rw [hd] at HD
 clear hd
 generalize (look c s m.ln).st = st at *
 clear h
 go_enter Tryz.func38, Tryz.ntmps38
 go_upto_region 2 with fail
 obtain ⟨w1, hw1⟩ : ∃ w1, w1 = ((w.alloc (.cells (mcells m) 38)).alloc (.cells #[.int .i64 0, .int .i64 0, .int .i64 0, .int .i64 0, .int .i64 0, .int .i64 0, .int .i64 0, .int .i64 0, .int .i64 0, .int .i64 0, .int .i64 0, .int .i64 0, .int .i64 0, .int .i64 0, .int .i64 0] 38)).alloc (.cells #[.int .i64 0, .int .i64 0, .int .i64 0, .int .i64 0, .int .i64 0, .int .i64 0, .int .i64 0, .int .i64 0, .int .i64 0, .int .i64 0, .int .i64 0, .int .i64 0, .int .i64 0, .int .i64 0, .int .i64 0] 38) := ⟨_, rfl⟩
 rw [← hw1] at H0
 have H1 := H0
 change Code.wp _ _ _ _ (((w.alloc (.cells (mcells m) 38)).alloc (.cells #[.int .i64 0, .int .i64 0, .int .i64 0, .int .i64 0, .int .i64 0, .int .i64 0, .int .i64 0, .int .i64 0, .int .i64 0, .int .i64 0, .int .i64 0, .int .i64 0, .int .i64 0, .int .i64 0, .int .i64 0] 38)).alloc (.cells #[.int .i64 0, .int .i64 0, .int .i64 0, .int .i64 0, .int .i64 0, .int .i64 0, .int .i64 0, .int .i64 0, .int .i64 0, .int .i64 0, .int .i64 0, .int .i64 0, .int .i64 0, .int .i64 0, .int .i64 0] 38))
 rw [← hw1]
 clear hw1 H0
 have HR := Lib.hid (fun d os => H1.out.step (below_regrown w1 d os))
 have hck := fun o d os => (HR.out d os).kc o
 have hcm := fun o d os => (HR.out d os).cells mz2 o
 refine wp_region_quiet_below (by kernel_rfl) (by kernel_rfl) ?_
 repeat (go_big_quiet_step (first
  | (go_at_call 79; exact Calls.regrown_of (HMy.out _))
  | (go_at_call 80; exact Calls.regrown_of (HHo.out _))))
 refine wpQuiet_nil ?_
 intro w2 hw2
 have hb2 : Below w1.heap.size w1 w2 := by
  obtain ⟨pp, rfl⟩ := hw2
  exact below_regrown _ _ _
 have H2 := Lib.hid (H1.out.step hb2)
 clear hw2 hb2 hck hcm HR H1 HMy HHo
 have hm2 := H2.out.cells mz2
 go_upto_region 6 with fail
 go_wp2_with fail
 refine (HSt.out _ _ H2.out).mono ?_
 rintro e w3 ⟨rfl, hb3⟩
 have H3 := Lib.hid (H2.out.step hb3)
 have hm3 := H3.out.cells mz2
 clear hb3 H2 hm2
 clear hm3
 have hkh := H3.out.kc
 have hb0 := H3.out.cells mz2
 go_upto_region 23 with fail
 go_region_held3 (fun w' => (∀ o, w'.cell? ⟨K.k, o, none⟩ = (kcells c core K)[o]?) ∧ (∀ o, w'.cell? ⟨w.heap.size, o, none⟩ = (mcells m)[o]?))
  (first | exact ⟨H4.out.kc, H4.out.cells mz2⟩ | exact ⟨hkh, hb0⟩ | go_keep)
  (first
   | (go_at_call 86; refine (HD.out _ _ (by first | exact H3.out | exact H3.out.drew)).mono ?_; rintro e w4 ⟨rfl, ho⟩; have H4 := Lib.hid ho; clear ho))
 clear hkh hb0
 clear H3
 have hm4 := H4.out.cells mz2
 have h4 := H4.out.box mz1
 have h7 := H4.out.box mz0
 go_wp2_with (first
  | ((with_reducible refine wpList_load_row (o := ⟨some 132, _, _, _, _, _⟩) rfl 38 (.tmp 7) rfl (w.heap.size + 2) ?lx 38 (#[.int .i64 0, .int .i64 0, .int .i64 0, .int .i64 0, .int .i64 0, .int .i64 0, .int .i64 0, .int .i64 0, .int .i64 0, .int .i64 0, .int .i64 0, .int .i64 0, .int .i64 0, .int .i64 0, .int .i64 0]) (0, 0) _ ?lg Tryz.underlying38 ?ld ?li ?_); (case lx => rfl); (case lg => exact h7); (case ld => rfl); (case li => kernel_rfl))
  | ((with_reducible refine wpList_store_row (o := ⟨none, _, _, _, _, _⟩) rfl 38 (.tmp 4) (.tmp 132) rfl (w.heap.size + 1) (#[.int .i64 0, .int .i64 0, .int .i64 0, .int .i64 0, .int .i64 0, .int .i64 0, .int .i64 0, .int .i64 0, .int .i64 0, .int .i64 0, .int .i64 0, .int .i64 0, .int .i64 0, .int .i64 0, .int .i64 0]) ?sx ?sy 38 ?old ?sg ?si ?so ?s1 ?_); (case sx => rfl); (case sy => rfl); (case old => exact #[.int .i64 0, .int .i64 0, .int .i64 0, .int .i64 0, .int .i64 0, .int .i64 0, .int .i64 0, .int .i64 0, .int .i64 0, .int .i64 0, .int .i64 0, .int .i64 0, .int .i64 0, .int .i64 0, .int .i64 0]); (case sg => exact h4); (case si => kernel_rfl); (case so => rfl); (case s1 => kernel_rfl)))
 exact dtake_ret (r := (m0, false, 7)) rfl rfl rfl rfl (setRow_heap _ _ _ _ _ _ h4) H4.out.setRow1.drop.drop.drop
set_option maxRecDepth 100000 in
set_option maxHeartbeats 8000000 in
theorem dtake_drop (h : OwnD w0 K c core n s bx w) (m : Msg) (hm : mayM c m = true) (hh : toHome m.kd = false) (hto : (m.to != core) = false) (k4 : (m.kd == 4) = false) (k5 : (m.kd == 5) = false) (k6 : (m.kd == 6) = false) (k7 : (m.kd == 7) = false) (k8 : (m.kd == 8) = false) (k9 : (m.kd == 9) = false) (k10 : (m.kd == 10) = true) {er : Int} {B : List Wb.En} (hd : Wb.dropP s.B m.ln = (er, B)) (g : (er != 0) = false) :
  Calls Tryz.prog 38 #[ptr K.k, mv m] w (RetT (m0, false, 0) (OwnD w0 K c core n { s with B := B } bx)) := by
 have H0 := Lib.hid (h.add3 (.cells (mcells m) 38) (.cells #[.int .i64 0, .int .i64 0, .int .i64 0, .int .i64 0, .int .i64 0, .int .i64 0, .int .i64 0, .int .i64 0, .int .i64 0, .int .i64 0, .int .i64 0, .int .i64 0, .int .i64 0, .int .i64 0, .int .i64 0] 38) (.cells #[.int .i64 0, .int .i64 0, .int .i64 0, .int .i64 0, .int .i64 0, .int .i64 0, .int .i64 0, .int .i64 0, .int .i64 0, .int .i64 0, .int .i64 0, .int .i64 0, .int .i64 0, .int .i64 0, .int .i64 0] 38))
 have HMy := Lib.hid (fun w => refMay_any c m w)
 have HHo := Lib.hid (fun w => refHome_any m.kd w)
 rw [hm] at HMy
 rw [hh] at HHo
 clear hm hh
 have HSt := Lib.hid (fun w1 bx (h : OwnD w0 K c core n s bx w1) => h.dstate m.ln)
 have HD := Lib.hid (fun w1 bx (h : OwnD w0 K c core n s bx w1) => h.ddrop m.ln)
 rw [hd] at HD
 clear hd
 generalize (look c s m.ln).st = st at *
 clear h
 go_enter Tryz.func38, Tryz.ntmps38
 go_upto_region 2 with fail
 obtain ⟨w1, hw1⟩ : ∃ w1, w1 = ((w.alloc (.cells (mcells m) 38)).alloc (.cells #[.int .i64 0, .int .i64 0, .int .i64 0, .int .i64 0, .int .i64 0, .int .i64 0, .int .i64 0, .int .i64 0, .int .i64 0, .int .i64 0, .int .i64 0, .int .i64 0, .int .i64 0, .int .i64 0, .int .i64 0] 38)).alloc (.cells #[.int .i64 0, .int .i64 0, .int .i64 0, .int .i64 0, .int .i64 0, .int .i64 0, .int .i64 0, .int .i64 0, .int .i64 0, .int .i64 0, .int .i64 0, .int .i64 0, .int .i64 0, .int .i64 0, .int .i64 0] 38) := ⟨_, rfl⟩
 rw [← hw1] at H0
 have H1 := H0
 change Code.wp _ _ _ _ (((w.alloc (.cells (mcells m) 38)).alloc (.cells #[.int .i64 0, .int .i64 0, .int .i64 0, .int .i64 0, .int .i64 0, .int .i64 0, .int .i64 0, .int .i64 0, .int .i64 0, .int .i64 0, .int .i64 0, .int .i64 0, .int .i64 0, .int .i64 0, .int .i64 0] 38)).alloc (.cells #[.int .i64 0, .int .i64 0, .int .i64 0, .int .i64 0, .int .i64 0, .int .i64 0, .int .i64 0, .int .i64 0, .int .i64 0, .int .i64 0, .int .i64 0, .int .i64 0, .int .i64 0, .int .i64 0, .int .i64 0] 38))
 rw [← hw1]
 clear hw1 H0
 have HR := Lib.hid (fun d os => H1.out.step (below_regrown w1 d os))
 have hck := fun o d os => (HR.out d os).kc o
 have hcm := fun o d os => (HR.out d os).cells mz2 o
 refine wp_region_quiet_below (by kernel_rfl) (by kernel_rfl) ?_
 repeat (go_big_quiet_step (first
  | (go_at_call 79; exact Calls.regrown_of (HMy.out _))
  | (go_at_call 80; exact Calls.regrown_of (HHo.out _))))
 refine wpQuiet_nil ?_
 intro w2 hw2
 have hb2 : Below w1.heap.size w1 w2 := by
  obtain ⟨pp, rfl⟩ := hw2
  exact below_regrown _ _ _
 have H2 := Lib.hid (H1.out.step hb2)
 clear hw2 hb2 hck hcm HR H1 HMy HHo
 have hm2 := H2.out.cells mz2
 go_upto_region 6 with fail
 go_wp2_with fail
 refine (HSt.out _ _ H2.out).mono ?_
 rintro e w3 ⟨rfl, hb3⟩
 have H3 := Lib.hid (H2.out.step hb3)
 have hm3 := H3.out.cells mz2
 clear hb3 H2 hm2
 clear hm3
 have hkh := H3.out.kc
 have hb0 := H3.out.cells mz2
 go_upto_region 23 with fail
 go_region_held3 (fun w' => (∀ o, w'.cell? ⟨K.k, o, none⟩ = (kcells c core K)[o]?) ∧ (∀ o, w'.cell? ⟨w.heap.size, o, none⟩ = (mcells m)[o]?))
  (first | exact ⟨H4.out.kc, H4.out.cells mz2⟩ | exact ⟨hkh, hb0⟩ | go_keep)
  (first
   | (go_at_call 86; refine (HD.out _ _ (by first | exact H3.out | exact H3.out.drew)).mono ?_; rintro e w4 ⟨rfl, ho⟩; have H4 := Lib.hid ho; clear ho))
 clear hkh hb0
 clear H3
 have hm4 := H4.out.cells mz2
 have h4 := H4.out.box mz1
 have h7 := H4.out.box mz0
 go_wp2_with (first
  | ((with_reducible refine wpList_load_row (o := ⟨some 136, _, _, _, _, _⟩) rfl 38 (.tmp 7) rfl (w.heap.size + 2) ?lx 38 (#[.int .i64 0, .int .i64 0, .int .i64 0, .int .i64 0, .int .i64 0, .int .i64 0, .int .i64 0, .int .i64 0, .int .i64 0, .int .i64 0, .int .i64 0, .int .i64 0, .int .i64 0, .int .i64 0, .int .i64 0]) (0, 0) _ ?lg Tryz.underlying38 ?ld ?li ?_); (case lx => rfl); (case lg => exact h7); (case ld => rfl); (case li => kernel_rfl))
  | ((with_reducible refine wpList_store_row (o := ⟨none, _, _, _, _, _⟩) rfl 38 (.tmp 4) (.tmp 136) rfl (w.heap.size + 1) (#[.int .i64 0, .int .i64 0, .int .i64 0, .int .i64 0, .int .i64 0, .int .i64 0, .int .i64 0, .int .i64 0, .int .i64 0, .int .i64 0, .int .i64 0, .int .i64 0, .int .i64 0, .int .i64 0, .int .i64 0]) ?sx ?sy 38 ?old ?sg ?si ?so ?s1 ?_); (case sx => rfl); (case sy => rfl); (case old => exact #[.int .i64 0, .int .i64 0, .int .i64 0, .int .i64 0, .int .i64 0, .int .i64 0, .int .i64 0, .int .i64 0, .int .i64 0, .int .i64 0, .int .i64 0, .int .i64 0, .int .i64 0, .int .i64 0, .int .i64 0]); (case sg => exact h4); (case si => kernel_rfl); (case so => rfl); (case s1 => kernel_rfl)))
 exact dtake_ret (r := (m0, false, 0)) rfl rfl rfl rfl (setRow_heap _ _ _ _ _ _ h4) H4.out.setRow1.drop.drop.drop

end Go.Proofs.YtlfhkjjjocmpbaaGreatDoor.Cc
