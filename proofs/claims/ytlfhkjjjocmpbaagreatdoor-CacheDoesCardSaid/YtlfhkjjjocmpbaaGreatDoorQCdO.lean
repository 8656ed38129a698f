import Derived.Test.YtlfhkjjjocmpbaaGreatDoorSx
import Derived.Test.YtlfhkjjjocmpbaaGreatDoorQCdDa
import Derived.Test.YtlfhkjjjocmpbaaGreatDoorQGdF
import Derived.Test.YtlfhkjjjocmpbaaGreatDoorQCdG

namespace Go.Proofs.YtlfhkjjjocmpbaaGreatDoor.Cc
open Go Go.RowKit

variable {w0 w w' : World} {bx : Bx} {K : Kb} {c : Cfg} {core n : Int} {s : St}
theorem own_ret {wr : World} {r : Rep} {P : World → Prop} {a : Act} {g : Nat} (hp : a.tmps.getD 4 undef = .pointer (some ⟨g, 0, none⟩)) (hd : a.defers = []) (hg : wr.heap[g]? = some (.cells (rcells r) 40 (0, 0))) (hb : P wr) :
  bodyPost Tryz.prog Tryz.f13 (RetP r P) Exit.ret a wr :=
 bodyPost_ret (v := .agg (rcells r)) (results_cell_row Tryz.results13 _ _ g 40 _ (0, 0) _ hp hg Tryz.underlying40 rfl (by kernel_rfl)) hd ⟨rfl, hb⟩
set_option maxRecDepth 100000 in
set_option maxHeartbeats 4000000 in
theorem own_ask (h : OwnD w0 K c core n s bx w) (x : Stp) (k0 : (x.k == 0) = true) :
  Calls Tryz.prog 13 #[ptr K.k, .agg (scells x)] w (RetP ⟨(askP c core s x.a x.b).1.1, false, 0, (askP c core s x.a x.b).1.2⟩ (OwnD w0 K c core (n + 2) (askP c core s x.a x.b).2 bx)) := by
 have H0 := Lib.hid (h.add3 (.cells (scells x) 45) (.cells #[.int .i64 0, .int .i64 0, .int .i64 0, .int .i64 0, .int .i64 0, .int .i64 0, .int .i64 0, .int .i64 0, .int .i64 0, .int .i64 0, .int .i64 0, .int .i64 0, .int .i64 0, .int .i64 0, .int .i64 0, .bool false, .int .i64 0, .int .i64 0] 40) (.cells #[.int .i64 0, .int .i64 0, .int .i64 0, .int .i64 0, .int .i64 0, .int .i64 0, .int .i64 0, .int .i64 0, .int .i64 0, .int .i64 0, .int .i64 0, .int .i64 0, .int .i64 0, .int .i64 0, .int .i64 0, .bool false, .int .i64 0, .int .i64 0] 40))
 have HC := Lib.hid (fun w1 bx (h : OwnD w0 K c core n s bx w1) => h.dask x.a x.b)
 have hx := H0.out.cells mz2
 clear h
 generalize (askP c core s x.a x.b) = r at *
 obtain ⟨⟨mm, er⟩, s2⟩ := r
 show Calls _ _ _ _ (RetP ⟨mm, false, 0, er⟩ (OwnD w0 K c core (n + 2) s2 bx))
 go_enter Tryz.func13, Tryz.ntmps13
 go_wp2_with fail
 refine (HC.out _ _ H0.out).mono ?_
 rintro e w3 ⟨rfl, ho⟩
 have H3 := Lib.hid ho
 clear ho hx
 go_wp2_with (first
  | ((with_reducible refine wpList_store_box (op := ⟨none, _, _, _, _, _⟩) rfl 38 (.tmp 29) (.tmp 27) rfl (w.heap.size + 2) 0 (mv mm) ?sx ?sy (#[.int .i64 0, .int .i64 0, .int .i64 0, .int .i64 0, .int .i64 0, .int .i64 0, .int .i64 0, .int .i64 0, .int .i64 0, .int .i64 0, .int .i64 0, .int .i64 0, .int .i64 0, .int .i64 0, .int .i64 0, .bool false, .int .i64 0, .int .i64 0]) 40 ?sg ?si ?sf ?s1 (rcells ⟨mm, false, 0, 0⟩) ?sn ?_); (case sx => rfl); (case sy => rfl); (case sg => exact H3.out.box mz0); (case si => kernel_rfl); (case sf => exact Nat.le_of_ble_eq_true rfl); (case s1 => kernel_rfl); (case sn => rfl); intro w4 g4 r4 k4; have H4 := Lib.hid (H3.out.turned g4 r4 k4); clear g4 r4 k4)
  | ((with_reducible refine wpList_store_box (op := ⟨none, _, _, _, _, _⟩) rfl 29 (.tmp 30) (.tmp 28) rfl (w.heap.size + 2) 17 (.int .i64 er) ?sx ?sy (rcells ⟨mm, false, 0, 0⟩) 40 ?sg ?si ?sf ?s1 (rcells ⟨mm, false, 0, er⟩) ?sn ?_); (case sx => rfl); (case sy => rfl); (case sg => exact H4.out.box mz0); (case si => kernel_rfl); (case sf => exact Nat.le_of_ble_eq_true rfl); (case s1 => kernel_rfl); (case sn => rfl); intro w4 g4 r4 k4; have H5 := Lib.hid (H4.out.turned g4 r4 k4); clear g4 r4 k4)
  | ((with_reducible refine wpList_load_row (o := ⟨some 68, _, _, _, _, _⟩) rfl 40 (.tmp 5) rfl (w.heap.size + 2) ?lx 40 (rcells ⟨mm, false, 0, er⟩) (0, 0) _ ?lg Tryz.underlying40 ?ld ?li ?_); (case lx => rfl); (case lg => exact H5.out.box mz0); (case ld => rfl); (case li => kernel_rfl))
  | ((with_reducible refine wpList_store_row (o := ⟨none, _, _, _, _, _⟩) rfl 40 (.tmp 4) (.tmp 68) rfl (w.heap.size + 1) (rcells ⟨mm, false, 0, er⟩) ?sx ?sy 40 ?old ?sg ?si ?so ?s1 ?_); (case sx => rfl); (case sy => rfl); (case old => exact #[.int .i64 0, .int .i64 0, .int .i64 0, .int .i64 0, .int .i64 0, .int .i64 0, .int .i64 0, .int .i64 0, .int .i64 0, .int .i64 0, .int .i64 0, .int .i64 0, .int .i64 0, .int .i64 0, .int .i64 0, .bool false, .int .i64 0, .int .i64 0]); (case sg => exact H5.out.box mz1); (case si => kernel_rfl); (case so => rfl); (case s1 => kernel_rfl)))
 have H9 := Lib.hid (H5.out.swap.setRow (cs' := rcells ⟨mm, false, 0, er⟩))
 exact own_ret (r := ⟨mm, false, 0, er⟩) rfl rfl (H9.out.box mz0) (H9.out.drop.drop.drop.more (by omega))

set_option maxRecDepth 100000 in
set_option maxHeartbeats 4000000 in
theorem own_evict (h : OwnD w0 K c core n s bx w) (hi : Inv c s) (x : Stp) (k0 : (x.k == 0) = false) (k1 : (x.k == 1) = true) :
  Calls Tryz.prog 13 #[ptr K.k, .agg (scells x)] w (RetP ⟨(evictP c core s x.a x.b).1.1, (evictP c core s x.a x.b).1.2.1, 0, (evictP c core s x.a x.b).1.2.2⟩ (OwnD w0 K c core (n + 2) (evictP c core s x.a x.b).2 bx)) := by
 have H0 := Lib.hid (h.add3 (.cells (scells x) 45) (.cells #[.int .i64 0, .int .i64 0, .int .i64 0, .int .i64 0, .int .i64 0, .int .i64 0, .int .i64 0, .int .i64 0, .int .i64 0, .int .i64 0, .int .i64 0, .int .i64 0, .int .i64 0, .int .i64 0, .int .i64 0, .bool false, .int .i64 0, .int .i64 0] 40) (.cells #[.int .i64 0, .int .i64 0, .int .i64 0, .int .i64 0, .int .i64 0, .int .i64 0, .int .i64 0, .int .i64 0, .int .i64 0, .int .i64 0, .int .i64 0, .int .i64 0, .int .i64 0, .int .i64 0, .int .i64 0, .bool false, .int .i64 0, .int .i64 0] 40))
 have HC := Lib.hid (fun w1 bx (h : OwnD w0 K c core n s bx w1) => h.devict hi x.a x.b)
 have hx := H0.out.cells mz2
 clear h hi
 generalize (evictP c core s x.a x.b) = r at *
 obtain ⟨⟨mm, is, er⟩, s2⟩ := r
 show Calls _ _ _ _ (RetP ⟨mm, is, 0, er⟩ (OwnD w0 K c core (n + 2) s2 bx))
 go_enter Tryz.func13, Tryz.ntmps13
 go_wp2_with fail
 refine (HC.out _ _ H0.out).mono ?_
 rintro e w3 ⟨rfl, ho⟩
 have H3 := Lib.hid ho
 clear ho hx
 go_wp2_with (first
  | ((with_reducible refine wpList_store_box (op := ⟨none, _, _, _, _, _⟩) rfl 38 (.tmp 43) (.tmp 40) rfl (w.heap.size + 2) 0 (mv mm) ?sx ?sy (#[.int .i64 0, .int .i64 0, .int .i64 0, .int .i64 0, .int .i64 0, .int .i64 0, .int .i64 0, .int .i64 0, .int .i64 0, .int .i64 0, .int .i64 0, .int .i64 0, .int .i64 0, .int .i64 0, .int .i64 0, .bool false, .int .i64 0, .int .i64 0]) 40 ?sg ?si ?sf ?s1 (rcells ⟨mm, false, 0, 0⟩) ?sn ?_); (case sx => rfl); (case sy => rfl); (case sg => exact H3.out.box mz0); (case si => kernel_rfl); (case sf => exact Nat.le_of_ble_eq_true rfl); (case s1 => kernel_rfl); (case sn => rfl); intro w4 g4 r4 k4; have H4 := Lib.hid (H3.out.turned g4 r4 k4); clear g4 r4 k4)
  | ((with_reducible refine wpList_store_box (op := ⟨none, _, _, _, _, _⟩) rfl 4 (.tmp 44) (.tmp 41) rfl (w.heap.size + 2) 15 (.bool is) ?sx ?sy (rcells ⟨mm, false, 0, 0⟩) 40 ?sg ?si ?sf ?s1 (rcells ⟨mm, is, 0, 0⟩) ?sn ?_); (case sx => rfl); (case sy => rfl); (case sg => exact H4.out.box mz0); (case si => kernel_rfl); (case sf => exact Nat.le_of_ble_eq_true rfl); (case s1 => kernel_rfl); (case sn => rfl); intro w4 g4 r4 k4; have H5 := Lib.hid (H4.out.turned g4 r4 k4); clear g4 r4 k4)
  | ((with_reducible refine wpList_store_box (op := ⟨none, _, _, _, _, _⟩) rfl 29 (.tmp 45) (.tmp 42) rfl (w.heap.size + 2) 17 (.int .i64 er) ?sx ?sy (rcells ⟨mm, is, 0, 0⟩) 40 ?sg ?si ?sf ?s1 (rcells ⟨mm, is, 0, er⟩) ?sn ?_); (case sx => rfl); (case sy => rfl); (case sg => exact H5.out.box mz0); (case si => kernel_rfl); (case sf => exact Nat.le_of_ble_eq_true rfl); (case s1 => kernel_rfl); (case sn => rfl); intro w4 g4 r4 k4; have H6 := Lib.hid (H5.out.turned g4 r4 k4); clear g4 r4 k4)
  | ((with_reducible refine wpList_load_row (o := ⟨some 68, _, _, _, _, _⟩) rfl 40 (.tmp 5) rfl (w.heap.size + 2) ?lx 40 (rcells ⟨mm, is, 0, er⟩) (0, 0) _ ?lg Tryz.underlying40 ?ld ?li ?_); (case lx => rfl); (case lg => exact H6.out.box mz0); (case ld => rfl); (case li => kernel_rfl))
  | ((with_reducible refine wpList_store_row (o := ⟨none, _, _, _, _, _⟩) rfl 40 (.tmp 4) (.tmp 68) rfl (w.heap.size + 1) (rcells ⟨mm, is, 0, er⟩) ?sx ?sy 40 ?old ?sg ?si ?so ?s1 ?_); (case sx => rfl); (case sy => rfl); (case old => exact #[.int .i64 0, .int .i64 0, .int .i64 0, .int .i64 0, .int .i64 0, .int .i64 0, .int .i64 0, .int .i64 0, .int .i64 0, .int .i64 0, .int .i64 0, .int .i64 0, .int .i64 0, .int .i64 0, .int .i64 0, .bool false, .int .i64 0, .int .i64 0]); (case sg => exact H6.out.box mz1); (case si => kernel_rfl); (case so => rfl); (case s1 => kernel_rfl)))
 have H9 := Lib.hid (H6.out.swap.setRow (cs' := rcells ⟨mm, is, 0, er⟩))
 exact own_ret (r := ⟨mm, is, 0, er⟩) rfl rfl (H9.out.box mz0) (H9.out.drop.drop.drop.more (by omega))

set_option maxRecDepth 100000 in
set_option maxHeartbeats 4000000 in
theorem own_take (h : OwnD w0 K c core n s bx w) (hn : n ≤ 900) (hi : Inv c s) (hb : Mh.Blk s.F) (x : Stp) (k0 : (x.k == 0) = false) (k1 : (x.k == 1) = false) (k2 : (x.k == 2) = true) :
  Calls Tryz.prog 13 #[ptr K.k, .agg (scells x)] w (RetP ⟨(takeP c core s x.m).1.1, (takeP c core s x.m).1.2.1, 0, (takeP c core s x.m).1.2.2⟩ (OwnD w0 K c core (n + 2) (takeP c core s x.m).2 bx)) := by
 have H0 := Lib.hid (h.add3 (.cells (scells x) 45) (.cells #[.int .i64 0, .int .i64 0, .int .i64 0, .int .i64 0, .int .i64 0, .int .i64 0, .int .i64 0, .int .i64 0, .int .i64 0, .int .i64 0, .int .i64 0, .int .i64 0, .int .i64 0, .int .i64 0, .int .i64 0, .bool false, .int .i64 0, .int .i64 0] 40) (.cells #[.int .i64 0, .int .i64 0, .int .i64 0, .int .i64 0, .int .i64 0, .int .i64 0, .int .i64 0, .int .i64 0, .int .i64 0, .int .i64 0, .int .i64 0, .int .i64 0, .int .i64 0, .int .i64 0, .int .i64 0, .bool false, .int .i64 0, .int .i64 0] 40))
 have HC := Lib.hid (fun w1 bx (h : OwnD w0 K c core n s bx w1) => h.dtake hn hi hb x.m)
 have hx := H0.out.cells mz2
 clear h hi hb hn
 generalize (takeP c core s x.m) = r at *
 obtain ⟨⟨mm, is, er⟩, s2⟩ := r
 show Calls _ _ _ _ (RetP ⟨mm, is, 0, er⟩ (OwnD w0 K c core (n + 2) s2 bx))
 go_enter Tryz.func13, Tryz.ntmps13
 go_wp2_with fail
 refine (HC.out _ _ H0.out).mono ?_
 rintro e w3 ⟨rfl, ho⟩
 have H3 := Lib.hid ho
 clear ho hx
 go_wp2_with (first
  | ((with_reducible refine wpList_store_box (op := ⟨none, _, _, _, _, _⟩) rfl 38 (.tmp 56) (.tmp 53) rfl (w.heap.size + 2) 0 (mv mm) ?sx ?sy (#[.int .i64 0, .int .i64 0, .int .i64 0, .int .i64 0, .int .i64 0, .int .i64 0, .int .i64 0, .int .i64 0, .int .i64 0, .int .i64 0, .int .i64 0, .int .i64 0, .int .i64 0, .int .i64 0, .int .i64 0, .bool false, .int .i64 0, .int .i64 0]) 40 ?sg ?si ?sf ?s1 (rcells ⟨mm, false, 0, 0⟩) ?sn ?_); (case sx => rfl); (case sy => rfl); (case sg => exact H3.out.box mz0); (case si => kernel_rfl); (case sf => exact Nat.le_of_ble_eq_true rfl); (case s1 => kernel_rfl); (case sn => rfl); intro w4 g4 r4 k4; have H4 := Lib.hid (H3.out.turned g4 r4 k4); clear g4 r4 k4)
  | ((with_reducible refine wpList_store_box (op := ⟨none, _, _, _, _, _⟩) rfl 4 (.tmp 57) (.tmp 54) rfl (w.heap.size + 2) 15 (.bool is) ?sx ?sy (rcells ⟨mm, false, 0, 0⟩) 40 ?sg ?si ?sf ?s1 (rcells ⟨mm, is, 0, 0⟩) ?sn ?_); (case sx => rfl); (case sy => rfl); (case sg => exact H4.out.box mz0); (case si => kernel_rfl); (case sf => exact Nat.le_of_ble_eq_true rfl); (case s1 => kernel_rfl); (case sn => rfl); intro w4 g4 r4 k4; have H5 := Lib.hid (H4.out.turned g4 r4 k4); clear g4 r4 k4)
  | ((with_reducible refine wpList_store_box (op := ⟨none, _, _, _, _, _⟩) rfl 29 (.tmp 58) (.tmp 55) rfl (w.heap.size + 2) 17 (.int .i64 er) ?sx ?sy (rcells ⟨mm, is, 0, 0⟩) 40 ?sg ?si ?sf ?s1 (rcells ⟨mm, is, 0, er⟩) ?sn ?_); (case sx => rfl); (case sy => rfl); (case sg => exact H5.out.box mz0); (case si => kernel_rfl); (case sf => exact Nat.le_of_ble_eq_true rfl); (case s1 => kernel_rfl); (case sn => rfl); intro w4 g4 r4 k4; have H6 := Lib.hid (H5.out.turned g4 r4 k4); clear g4 r4 k4)
  | ((with_reducible refine wpList_load_row (o := ⟨some 68, _, _, _, _, _⟩) rfl 40 (.tmp 5) rfl (w.heap.size + 2) ?lx 40 (rcells ⟨mm, is, 0, er⟩) (0, 0) _ ?lg Tryz.underlying40 ?ld ?li ?_); (case lx => rfl); (case lg => exact H6.out.box mz0); (case ld => rfl); (case li => kernel_rfl))
  | ((with_reducible refine wpList_store_row (o := ⟨none, _, _, _, _, _⟩) rfl 40 (.tmp 4) (.tmp 68) rfl (w.heap.size + 1) (rcells ⟨mm, is, 0, er⟩) ?sx ?sy 40 ?old ?sg ?si ?so ?s1 ?_); (case sx => rfl); (case sy => rfl); (case old => exact #[.int .i64 0, .int .i64 0, .int .i64 0, .int .i64 0, .int .i64 0, .int .i64 0, .int .i64 0, .int .i64 0, .int .i64 0, .int .i64 0, .int .i64 0, .int .i64 0, .int .i64 0, .int .i64 0, .int .i64 0, .bool false, .int .i64 0, .int .i64 0]); (case sg => exact H6.out.box mz1); (case si => kernel_rfl); (case so => rfl); (case s1 => kernel_rfl)))
 have H9 := Lib.hid (H6.out.swap.setRow (cs' := rcells ⟨mm, is, 0, er⟩))
 exact own_ret (r := ⟨mm, is, 0, er⟩) rfl rfl (H9.out.box mz0) (H9.out.drop.drop.drop.more (by omega))

set_option maxRecDepth 100000 in
set_option maxHeartbeats 4000000 in
theorem own_finish (h : OwnD w0 K c core n s bx w) (hi : Inv c s) (x : Stp) (k0 : (x.k == 0) = false) (k1 : (x.k == 1) = false) (k2 : (x.k == 2) = false) (k3 : (x.k == 3) = true) :
  Calls Tryz.prog 13 #[ptr K.k, .agg (scells x)] w (RetP ⟨(finishP c core s).1.1, (finishP c core s).1.2, 0, 0⟩ (OwnD w0 K c core (n + 2) (finishP c core s).2 bx)) := by
 have H0 := Lib.hid (h.add3 (.cells (scells x) 45) (.cells #[.int .i64 0, .int .i64 0, .int .i64 0, .int .i64 0, .int .i64 0, .int .i64 0, .int .i64 0, .int .i64 0, .int .i64 0, .int .i64 0, .int .i64 0, .int .i64 0, .int .i64 0, .int .i64 0, .int .i64 0, .bool false, .int .i64 0, .int .i64 0] 40) (.cells #[.int .i64 0, .int .i64 0, .int .i64 0, .int .i64 0, .int .i64 0, .int .i64 0, .int .i64 0, .int .i64 0, .int .i64 0, .int .i64 0, .int .i64 0, .int .i64 0, .int .i64 0, .int .i64 0, .int .i64 0, .bool false, .int .i64 0, .int .i64 0] 40))
 have HC := Lib.hid (fun w1 bx (h : OwnD w0 K c core n s bx w1) => h.dfinish hi)
 have hx := H0.out.cells mz2
 clear h hi
 generalize (finishP c core s) = r at *
 obtain ⟨⟨mm, is⟩, s2⟩ := r
 show Calls _ _ _ _ (RetP ⟨mm, is, 0, 0⟩ (OwnD w0 K c core (n + 2) s2 bx))
 go_enter Tryz.func13, Tryz.ntmps13
 go_wp2_with fail
 refine (HC.out _ _ H0.out).mono ?_
 rintro e w3 ⟨rfl, ho⟩
 have H3 := Lib.hid ho
 clear ho hx
 go_wp2_with (first
  | ((with_reducible refine wpList_store_box (op := ⟨none, _, _, _, _, _⟩) rfl 38 (.tmp 66) (.tmp 64) rfl (w.heap.size + 2) 0 (mv mm) ?sx ?sy (#[.int .i64 0, .int .i64 0, .int .i64 0, .int .i64 0, .int .i64 0, .int .i64 0, .int .i64 0, .int .i64 0, .int .i64 0, .int .i64 0, .int .i64 0, .int .i64 0, .int .i64 0, .int .i64 0, .int .i64 0, .bool false, .int .i64 0, .int .i64 0]) 40 ?sg ?si ?sf ?s1 (rcells ⟨mm, false, 0, 0⟩) ?sn ?_); (case sx => rfl); (case sy => rfl); (case sg => exact H3.out.box mz0); (case si => kernel_rfl); (case sf => exact Nat.le_of_ble_eq_true rfl); (case s1 => kernel_rfl); (case sn => rfl); intro w4 g4 r4 k4; have H4 := Lib.hid (H3.out.turned g4 r4 k4); clear g4 r4 k4)
  | ((with_reducible refine wpList_store_box (op := ⟨none, _, _, _, _, _⟩) rfl 4 (.tmp 67) (.tmp 65) rfl (w.heap.size + 2) 15 (.bool is) ?sx ?sy (rcells ⟨mm, false, 0, 0⟩) 40 ?sg ?si ?sf ?s1 (rcells ⟨mm, is, 0, 0⟩) ?sn ?_); (case sx => rfl); (case sy => rfl); (case sg => exact H4.out.box mz0); (case si => kernel_rfl); (case sf => exact Nat.le_of_ble_eq_true rfl); (case s1 => kernel_rfl); (case sn => rfl); intro w4 g4 r4 k4; have H5 := Lib.hid (H4.out.turned g4 r4 k4); clear g4 r4 k4)
  | ((with_reducible refine wpList_load_row (o := ⟨some 68, _, _, _, _, _⟩) rfl 40 (.tmp 5) rfl (w.heap.size + 2) ?lx 40 (rcells ⟨mm, is, 0, 0⟩) (0, 0) _ ?lg Tryz.underlying40 ?ld ?li ?_); (case lx => rfl); (case lg => exact H5.out.box mz0); (case ld => rfl); (case li => kernel_rfl))
  | ((with_reducible refine wpList_store_row (o := ⟨none, _, _, _, _, _⟩) rfl 40 (.tmp 4) (.tmp 68) rfl (w.heap.size + 1) (rcells ⟨mm, is, 0, 0⟩) ?sx ?sy 40 ?old ?sg ?si ?so ?s1 ?_); (case sx => rfl); (case sy => rfl); (case old => exact #[.int .i64 0, .int .i64 0, .int .i64 0, .int .i64 0, .int .i64 0, .int .i64 0, .int .i64 0, .int .i64 0, .int .i64 0, .int .i64 0, .int .i64 0, .int .i64 0, .int .i64 0, .int .i64 0, .int .i64 0, .bool false, .int .i64 0, .int .i64 0]); (case sg => exact H5.out.box mz1); (case si => kernel_rfl); (case so => rfl); (case s1 => kernel_rfl)))
 have H9 := Lib.hid (H5.out.swap.setRow (cs' := rcells ⟨mm, is, 0, 0⟩))
 exact own_ret (r := ⟨mm, is, 0, 0⟩) rfl rfl (H9.out.box mz0) (H9.out.drop.drop.drop.more (by omega))

set_option maxRecDepth 100000 in
set_option maxHeartbeats 4000000 in
theorem own_op (h : OwnD w0 K c core n s bx w) (x : Stp) (k0 : (x.k == 0) = false) (k1 : (x.k == 1) = false) (k2 : (x.k == 2) = false) (k3 : (x.k == 3) = false) :
  Calls Tryz.prog 13 #[ptr K.k, .agg (scells x)] w (RetP ⟨m0, false, (doP c s x.x).1.1, (doP c s x.x).1.2⟩ (OwnD w0 K c core (n + 2) (doP c s x.x).2 bx)) := by
 have H0 := Lib.hid (h.add3 (.cells (scells x) 45) (.cells #[.int .i64 0, .int .i64 0, .int .i64 0, .int .i64 0, .int .i64 0, .int .i64 0, .int .i64 0, .int .i64 0, .int .i64 0, .int .i64 0, .int .i64 0, .int .i64 0, .int .i64 0, .int .i64 0, .int .i64 0, .bool false, .int .i64 0, .int .i64 0] 40) (.cells #[.int .i64 0, .int .i64 0, .int .i64 0, .int .i64 0, .int .i64 0, .int .i64 0, .int .i64 0, .int .i64 0, .int .i64 0, .int .i64 0, .int .i64 0, .int .i64 0, .int .i64 0, .int .i64 0, .int .i64 0, .bool false, .int .i64 0, .int .i64 0] 40))
 have HC := Lib.hid (fun w1 bx (h : OwnD w0 K c core n s bx w1) => h.ddo x.x)
 have hx := H0.out.cells mz2
 clear h
 generalize (doP c s x.x) = r at *
 obtain ⟨⟨nn, er⟩, s2⟩ := r
 show Calls _ _ _ _ (RetP ⟨m0, false, nn, er⟩ (OwnD w0 K c core (n + 2) s2 bx))
 go_enter Tryz.func13, Tryz.ntmps13
 go_wp2_with fail
 refine (HC.out _ _ H0.out).mono ?_
 rintro e w3 ⟨rfl, ho⟩
 have H3 := Lib.hid ho
 clear ho hx
 go_wp2_with (first
  | ((with_reducible refine wpList_store_box (op := ⟨none, _, _, _, _, _⟩) rfl 3 (.tmp 16) (.tmp 14) rfl (w.heap.size + 2) 16 (.int .i64 nn) ?sx ?sy (#[.int .i64 0, .int .i64 0, .int .i64 0, .int .i64 0, .int .i64 0, .int .i64 0, .int .i64 0, .int .i64 0, .int .i64 0, .int .i64 0, .int .i64 0, .int .i64 0, .int .i64 0, .int .i64 0, .int .i64 0, .bool false, .int .i64 0, .int .i64 0]) 40 ?sg ?si ?sf ?s1 (rcells ⟨m0, false, nn, 0⟩) ?sn ?_); (case sx => rfl); (case sy => rfl); (case sg => exact H3.out.box mz0); (case si => kernel_rfl); (case sf => exact Nat.le_of_ble_eq_true rfl); (case s1 => kernel_rfl); (case sn => rfl); intro w4 g4 r4 k4; have H4 := Lib.hid (H3.out.turned g4 r4 k4); clear g4 r4 k4)
  | ((with_reducible refine wpList_store_box (op := ⟨none, _, _, _, _, _⟩) rfl 29 (.tmp 17) (.tmp 15) rfl (w.heap.size + 2) 17 (.int .i64 er) ?sx ?sy (rcells ⟨m0, false, nn, 0⟩) 40 ?sg ?si ?sf ?s1 (rcells ⟨m0, false, nn, er⟩) ?sn ?_); (case sx => rfl); (case sy => rfl); (case sg => exact H4.out.box mz0); (case si => kernel_rfl); (case sf => exact Nat.le_of_ble_eq_true rfl); (case s1 => kernel_rfl); (case sn => rfl); intro w4 g4 r4 k4; have H5 := Lib.hid (H4.out.turned g4 r4 k4); clear g4 r4 k4)
  | ((with_reducible refine wpList_load_row (o := ⟨some 68, _, _, _, _, _⟩) rfl 40 (.tmp 5) rfl (w.heap.size + 2) ?lx 40 (rcells ⟨m0, false, nn, er⟩) (0, 0) _ ?lg Tryz.underlying40 ?ld ?li ?_); (case lx => rfl); (case lg => exact H5.out.box mz0); (case ld => rfl); (case li => kernel_rfl))
  | ((with_reducible refine wpList_store_row (o := ⟨none, _, _, _, _, _⟩) rfl 40 (.tmp 4) (.tmp 68) rfl (w.heap.size + 1) (rcells ⟨m0, false, nn, er⟩) ?sx ?sy 40 ?old ?sg ?si ?so ?s1 ?_); (case sx => rfl); (case sy => rfl); (case old => exact #[.int .i64 0, .int .i64 0, .int .i64 0, .int .i64 0, .int .i64 0, .int .i64 0, .int .i64 0, .int .i64 0, .int .i64 0, .int .i64 0, .int .i64 0, .int .i64 0, .int .i64 0, .int .i64 0, .int .i64 0, .bool false, .int .i64 0, .int .i64 0]); (case sg => exact H5.out.box mz1); (case si => kernel_rfl); (case so => rfl); (case s1 => kernel_rfl)))
 have H9 := Lib.hid (H5.out.swap.setRow (cs' := rcells ⟨m0, false, nn, er⟩))
 exact own_ret (r := ⟨m0, false, nn, er⟩) rfl rfl (H9.out.box mz0) (H9.out.drop.drop.drop.more (by omega))

theorem Own.dstp (h : OwnD w0 K c core n s bx w) (hn : n ≤ 900) (hi : Inv c s) (hb : Mh.Blk s.F) (x : Stp) :
  Calls Tryz.prog 13 #[ptr K.k, .agg (scells x)] w (RetP (doS c core s x).1 (OwnD w0 K c core (n + 2) (doS c core s x).2 bx)) := by
 unfold doS
 by_cases k0 : x.k = 0
 ·rw [if_pos k0]
  exact own_ask h x (by simpa using k0)
 ·rw [if_neg k0]
  have b0 : (x.k == 0) = false := by simpa using k0
  by_cases k1 : x.k = 1
  ·rw [if_pos k1]
   exact own_evict h hi x b0 (by simpa using k1)
  ·rw [if_neg k1]
   have b1 : (x.k == 1) = false := by simpa using k1
   by_cases k2 : x.k = 2
   ·rw [if_pos k2]
    exact own_take h hn hi hb x b0 b1 (by simpa using k2)
   ·rw [if_neg k2]
    have b2 : (x.k == 2) = false := by simpa using k2
    by_cases k3 : x.k = 3
    ·rw [if_pos k3]
     exact own_finish h hi x b0 b1 b2 (by simpa using k3)
    ·rw [if_neg k3]
     exact own_op h x b0 b1 b2 (by simpa using k3)

end Go.Proofs.YtlfhkjjjocmpbaaGreatDoor.Cc
