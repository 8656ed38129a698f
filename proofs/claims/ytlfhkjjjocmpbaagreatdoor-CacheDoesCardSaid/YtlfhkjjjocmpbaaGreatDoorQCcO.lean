import Derived.Test.YtlfhkjjjocmpbaaGreatDoorSx
import Derived.Test.YtlfhkjjjocmpbaaGreatDoorQCcL
import Derived.Test.YtlfhkjjjocmpbaaGreatDoorQGcE
import Derived.Test.YtlfhkjjjocmpbaaGreatDoorQCcI

namespace Go.Proofs.YtlfhkjjjocmpbaaGreatDoor.Cc
open Go Go.RowKit

structure Stp where
 k : Int
 a : Int
 b : Int
 m : Msg
 x : Pg.Op
structure Rep where
 m : Msg
 is : Bool
 n : Int
 er : Int
abbrev scells (x : Stp) : Array Value := #[.int .i64 x.k, .int .i64 x.a, .int .i64 x.b, .int .i64 x.m.kd, .int .i64 x.m.ln, .int .i64 x.m.fr, .int .i64 x.m.to, .int .i64 x.m.wh, .int .i64 x.m.ac, .int .i64 x.m.ow, .int .i64 x.m.w0, .int .i64 x.m.w1, .int .i64 x.m.w2, .int .i64 x.m.w3, .int .i64 x.m.w4, .int .i64 x.m.w5, .int .i64 x.m.w6, .int .i64 x.m.w7, .int .i64 x.x.k, .int .i64 x.x.a, .int .i64 x.x.v]
abbrev rcells (r : Rep) : Array Value := #[.int .i64 r.m.kd, .int .i64 r.m.ln, .int .i64 r.m.fr, .int .i64 r.m.to, .int .i64 r.m.wh, .int .i64 r.m.ac, .int .i64 r.m.ow, .int .i64 r.m.w0, .int .i64 r.m.w1, .int .i64 r.m.w2, .int .i64 r.m.w3, .int .i64 r.m.w4, .int .i64 r.m.w5, .int .i64 r.m.w6, .int .i64 r.m.w7, .bool r.is, .int .i64 r.n, .int .i64 r.er]
def doS (c : Cfg) (core : Int) (s : St) (x : Stp) : Rep × St :=
 if x.k = 0 then (⟨(askP c core s x.a x.b).1.1, false, 0, (askP c core s x.a x.b).1.2⟩, (askP c core s x.a x.b).2)
 else if x.k = 1 then (⟨(evictP c core s x.a x.b).1.1, (evictP c core s x.a x.b).1.2.1, 0, (evictP c core s x.a x.b).1.2.2⟩, (evictP c core s x.a x.b).2)
 else if x.k = 2 then (⟨(takeP c core s x.m).1.1, (takeP c core s x.m).1.2.1, 0, (takeP c core s x.m).1.2.2⟩, (takeP c core s x.m).2)
 else if x.k = 3 then (⟨(finishP c core s).1.1, (finishP c core s).1.2, 0, 0⟩, (finishP c core s).2)
 else (⟨m0, false, (doP c s x.x).1.1, (doP c s x.x).1.2⟩, (doP c s x.x).2)

theorem heap_cells_row (g : Nat) (t : TypeId) : ∀ (vs : List Value) (o : Nat) (cur : Array Value) (w : World), w.heap[g]? = some (.cells cur t (0, 0)) → o + vs.length ≤ cur.size →
  (w.setCells g o vs).heap[g]? = some (.cells (cur.toList.take o ++ vs ++ cur.toList.drop (o + vs.length)).toArray t (0, 0)) := Mh.heap_setCells_row g t
theorem run_store_any {P : Program} (w : World) (b o : Nat) (ty : TypeId) (v : Value) (ht : w.there b o v.cells.size) (hi : (P.info? ty).map (·.size) = some v.cells.size) (h1 : ∀ u ∈ v.cells.toList, u.oneCell' = true) :
  (storeVar ty ⟨b, o, none⟩ v).run P w = .ok () (w.setCells b o v.cells.toList) := by
 have := run_storeCells_cells (P := P) b o v.cells.toList 0 w (fun j hj => by simpa using (ht j (by simpa using hj)).1) (fun j hj => by simpa using (ht j (by simpa using hj)).2) h1
 cases hq : P.info? ty with
 | none => simp [hq] at hi
 | some i =>
  have hs : v.cells.size = i.size := by simp [hq] at hi; omega
  simp only [Nat.add_zero] at this
  simp [storeVar, sizeOf, typeInfo, hq, hs, this]
theorem wpList_store_box {P : Program} {ops : Array Oper} {rest : List Oper} {op : Oper} {a : Act} {w : World} {Q : Exit → Act → World → Prop} (hgd : op.guard = none) (ty : TypeId) (x y : Operand) (ho : op.op = .store ty x y)
  (b o : Nat) (v : Value) (hx : a.eval x = .pointer (some ⟨b, o, none⟩)) (hy : a.eval y = v) (cur : Array Value) (t : TypeId) (hg : w.heap[b]? = some (.cells cur t (0, 0))) (hi : (P.info? ty).map (·.size) = some v.cells.size) (hfit : o + v.cells.size ≤ cur.size) (h1 : (v.cells.toList.all fun u => u.oneCell') = true)
  (new : Array Value) (hnew : (cur.toList.take o ++ v.cells.toList ++ cur.toList.drop (o + v.cells.toList.length)).toArray = new)
  (h : ∀ w', w'.heap[b]? = some (.cells new t (0, 0)) → w'.os = w.os ∧ w'.tape = w.tape ∧ w'.output = w.output ∧ w'.heap.size = w.heap.size → (∀ k, k ≠ b → w'.heap[k]? = w.heap[k]?) → wpList P ops Q rest (a.put op.dst undef) w') : wpList P ops Q (op :: rest) a w := by
 refine wpList_plain hgd fun K hK => ?_
 have hth : w.there b o v.cells.size := fun j hj => ⟨by rw [c_cell hg, Array.getElem?_eq_getElem (by omega)]; rfl, Mh.blk_free hg _⟩
 have hrun := run_store_any (P := P) w b o ty v hth hi (List.all_eq_true.1 h1)
 unfold Oper.wp execOp
 simp only [ho, hx, hy, Instr.storeAt, Instr.sureAddr, Sem.run_bind, Sem.run_pure, Result.andThen_ok, hrun]
 obtain ⟨r1, r2, r3, r4⟩ := Mh.setCells_rest b v.cells.toList o w
 refine hK _ _ (h _ ?_ ⟨r1, r2, r3, r4⟩ (fun k hk => Mh.heap_setCells_other b _ o w k hk))
 rw [heap_cells_row b t v.cells.toList o cur w hg (by simpa using hfit), hnew]
variable {w0 w w' : World} {bx : Bx} {K : Kb} {c : Cfg} {core n : Int} {s : St}

theorem Own.turned {ty : Tys} {m : Nat} {o o' : Obj} (h : Own ty w0 K c core n s ((m, o) :: bx) w) (hg : w'.heap[m]? = some o') (hos : w'.os = w.os ∧ w'.tape = w.tape ∧ w'.output = w.output ∧ w'.heap.size = w.heap.size) (hk : ∀ k, k ≠ m → w'.heap[k]? = w.heap[k]?) : Own ty w0 K c core n s ((m, o') :: bx) w' :=
 h.boxed fun ys hs => Sp.perm (bx := (m, o') :: (ys ++ bx)) (Sp.swap (xs := [(m, o)]) (ys := [(m, o')]) (rest := ys ++ bx) (hs.perm List.perm_middle) ⟨hos.1, hos.2.1, hos.2.2.1, by omega⟩ (fun k _ hne => hk k (fun e => hne (by simp [e]))) (fun p hp => by obtain rfl := List.mem_singleton.1 hp; exact hg) (fun p hp => .inl (by obtain rfl := List.mem_singleton.1 hp; simp)) (by simp)) List.perm_middle.symm
theorem Own.add3 {ty : Tys} (h : Own ty w0 K c core n s bx w) (o1 o2 o3 : Obj) : Own ty w0 K c core n s ((w.heap.size + 2, o3) :: (w.heap.size + 1, o2) :: (w.heap.size, o1) :: bx) (((w.alloc o1).alloc o2).alloc o3) := by
 have := (h.add2 o1 o2).add o3
 rwa [show ((w.alloc o1).alloc o2).heap.size = w.heap.size + 2 by simp] at this
def RetP (r : Rep) (P : World → Prop) (e : Ending) (w' : World) : Prop := e = .returned (.agg (rcells r)) ∧ P w'
theorem do_ret {wr : World} {r : Rep} {P : World → Prop} {a : Act} {g : Nat} (hp : a.tmps.getD 4 undef = .pointer (some ⟨g, 0, none⟩)) (hd : a.defers = []) (hg : wr.heap[g]? = some (.cells (rcells r) 40 (0, 0))) (hb : P wr) :
  bodyPost Tryz.prog Tryz.f12 (RetP r P) Exit.ret a wr :=
 bodyPost_ret (v := .agg (rcells r)) (results_cell_row Tryz.results12 _ _ g 40 _ (0, 0) _ hp hg Tryz.underlying40 rfl (by kernel_rfl)) hd ⟨rfl, hb⟩
set_option maxRecDepth 100000 in
set_option maxHeartbeats 4000000 in
theorem do_ask (h : OwnP w0 K c core n s bx w) (x : Stp) (k0 : (x.k == 0) = true) :
  Calls Tryz.prog 12 #[ptr K.k, .agg (scells x)] w (RetP ⟨(askP c core s x.a x.b).1.1, false, 0, (askP c core s x.a x.b).1.2⟩ (OwnP w0 K c core (n + 2) (askP c core s x.a x.b).2 bx)) := by
 have H0 := Lib.hid (h.add3 (.cells (scells x) 45) (.cells #[.int .i64 0, .int .i64 0, .int .i64 0, .int .i64 0, .int .i64 0, .int .i64 0, .int .i64 0, .int .i64 0, .int .i64 0, .int .i64 0, .int .i64 0, .int .i64 0, .int .i64 0, .int .i64 0, .int .i64 0, .bool false, .int .i64 0, .int .i64 0] 40) (.cells #[.int .i64 0, .int .i64 0, .int .i64 0, .int .i64 0, .int .i64 0, .int .i64 0, .int .i64 0, .int .i64 0, .int .i64 0, .int .i64 0, .int .i64 0, .int .i64 0, .int .i64 0, .int .i64 0, .int .i64 0, .bool false, .int .i64 0, .int .i64 0] 40))
 have HC := Lib.hid (fun w1 bx (h : OwnP w0 K c core n s bx w1) => h.ask x.a x.b)
 have hx := H0.out.cells mz2
 clear h
 generalize (askP c core s x.a x.b) = r at *
 obtain ⟨⟨mm, er⟩, s2⟩ := r
 show Calls _ _ _ _ (RetP ⟨mm, false, 0, er⟩ (OwnP w0 K c core (n + 2) s2 bx))
 go_enter Tryz.func12, Tryz.ntmps12
 go_wp2_with fail
 refine (HC.out _ _ H0.out).mono ?_
 rintro e w3 ⟨rfl, ho⟩
 have H3 := Lib.hid ho
 clear ho hx
 go_wp2_with (first
  | ((with_reducible refine wpList_store_box (op := ⟨none, _, _, _, _, _⟩) rfl 38 (.tmp 29) (.tmp 27) rfl (w.heap.size + 2) 0 (mv mm) ?sx ?sy (#[.int .i64 0, .int .i64 0, .int .i64 0, .int .i64 0, .int .i64 0, .int .i64 0, .int .i64 0, .int .i64 0, .int .i64 0, .int .i64 0, .int .i64 0, .int .i64 0, .int .i64 0, .int .i64 0, .int .i64 0, .bool false, .int .i64 0, .int .i64 0]) 40 ?sg ?si ?sf ?s1 (rcells ⟨mm, false, 0, 0⟩) ?sn ?_); (case sx => rfl); (case sy => rfl); (case sg => exact H3.out.box mz0); (case si => kernel_rfl); (case sf => exact Nat.le_of_ble_eq_true rfl); (case s1 => kernel_rfl); (case sn => rfl); intro w4 g4 r4 k4; have H4 := Lib.hid (H3.out.turned g4 r4 k4); clear g4 r4 k4)
  | ((with_reducible refine wpList_store_box (op := ⟨none, _, _, _, _, _⟩) rfl 29 (.tmp 30) (.tmp 28) rfl (w.heap.size + 2) 17 (.int .i64 er) ?sx ?sy (rcells ⟨mm, false, 0, 0⟩) 40 ?sg ?si ?sf ?s1 (rcells ⟨mm, false, 0, er⟩) ?sn ?_); (case sx => rfl); (case sy => rfl); (case sg => exact H4.out.box mz0); (case si => kernel_rfl); (case sf => exact Nat.le_of_ble_eq_true rfl); (case s1 => kernel_rfl); (case sn => rfl); intro w4 g4 r4 k4; have H5 := Lib.hid (H4.out.turned g4 r4 k4); clear g4 r4 k4)
  | ((with_reducible refine wpList_load_row (o := ⟨some 68, _, _, _, _, _⟩) rfl 40 (.tmp 5) rfl (w.heap.size + 2) ?lx 40 (rcells ⟨mm, false, 0, er⟩) (0, 0) _ ?lg Tryz.underlying40 ?ld ?li ?_); (case lx => rfl); (case lg => exact H5.out.box mz0); (case ld => rfl); (case li => kernel_rfl))
  | ((with_reducible refine wpList_store_row (o := ⟨none, _, _, _, _, _⟩) rfl 40 (.tmp 4) (.tmp 68) rfl (w.heap.size + 1) (rcells ⟨mm, false, 0, er⟩) ?sx ?sy 40 ?old ?sg ?si ?so ?s1 ?_); (case sx => rfl); (case sy => rfl); (case old => exact #[.int .i64 0, .int .i64 0, .int .i64 0, .int .i64 0, .int .i64 0, .int .i64 0, .int .i64 0, .int .i64 0, .int .i64 0, .int .i64 0, .int .i64 0, .int .i64 0, .int .i64 0, .int .i64 0, .int .i64 0, .bool false, .int .i64 0, .int .i64 0]); (case sg => exact H5.out.box mz1); (case si => kernel_rfl); (case so => rfl); (case s1 => kernel_rfl)))
 have H9 := Lib.hid (H5.out.swap.setRow (cs' := rcells ⟨mm, false, 0, er⟩))
 exact do_ret (r := ⟨mm, false, 0, er⟩) rfl rfl (H9.out.box mz0) (H9.out.drop.drop.drop.more (by omega))

set_option maxRecDepth 100000 in
set_option maxHeartbeats 4000000 in
theorem do_evict (h : OwnP w0 K c core n s bx w) (x : Stp) (k0 : (x.k == 0) = false) (k1 : (x.k == 1) = true) :
  Calls Tryz.prog 12 #[ptr K.k, .agg (scells x)] w (RetP ⟨(evictP c core s x.a x.b).1.1, (evictP c core s x.a x.b).1.2.1, 0, (evictP c core s x.a x.b).1.2.2⟩ (OwnP w0 K c core (n + 2) (evictP c core s x.a x.b).2 bx)) := by
 have H0 := Lib.hid (h.add3 (.cells (scells x) 45) (.cells #[.int .i64 0, .int .i64 0, .int .i64 0, .int .i64 0, .int .i64 0, .int .i64 0, .int .i64 0, .int .i64 0, .int .i64 0, .int .i64 0, .int .i64 0, .int .i64 0, .int .i64 0, .int .i64 0, .int .i64 0, .bool false, .int .i64 0, .int .i64 0] 40) (.cells #[.int .i64 0, .int .i64 0, .int .i64 0, .int .i64 0, .int .i64 0, .int .i64 0, .int .i64 0, .int .i64 0, .int .i64 0, .int .i64 0, .int .i64 0, .int .i64 0, .int .i64 0, .int .i64 0, .int .i64 0, .bool false, .int .i64 0, .int .i64 0] 40))
 have HC := Lib.hid (fun w1 bx (h : OwnP w0 K c core n s bx w1) => h.evict x.a x.b)
 have hx := H0.out.cells mz2
 clear h
 generalize (evictP c core s x.a x.b) = r at *
 obtain ⟨⟨mm, is, er⟩, s2⟩ := r
 show Calls _ _ _ _ (RetP ⟨mm, is, 0, er⟩ (OwnP w0 K c core (n + 2) s2 bx))
 go_enter Tryz.func12, Tryz.ntmps12
 go_wp2_with fail
 refine (HC.out _ _ H0.out).mono ?_
 rintro e w3 ⟨rfl, ho⟩
 have H3 := Lib.hid ho
 clear ho hx
 go_wp2_with (first
  | ((with_reducible refine wpList_store_box (op := ⟨none, _, _, _, _, _⟩) rfl 38 (.tmp 43) (.tmp 40) rfl (w.heap.size + 2) 0 (mv mm) ?sx ?sy (#[.int .i64 0, .int .i64 0, .int .i64 0, .int .i64 0, .int .i64 0, .int .i64 0, .int .i64 0, .int .i64 0, .int .i64 0, .int .i64 0, .int .i64 0, .int .i64 0, .int .i64 0, .int .i64 0, .int .i64 0, .bool false, .int .i64 0, .int .i64 0]) 40 ?sg ?si ?sf ?s1 (rcells ⟨mm, false, 0, 0⟩) ?sn ?_); (case sx => rfl); (case sy => rfl); (case sg => exact H3.out.box mz0); (case si => kernel_rfl); (case sf => exact Nat.le_of_ble_eq_true rfl); (case s1 => kernel_rfl); (case sn => rfl); intro w4 g4 r4 k4; have H4 := Lib.hid (H3.out.turned g4 r4 k4); clear g4 r4 k4)
  | ((with_reducible refine wpList_store_box (op := ⟨none, _, _, _, _, _⟩) rfl 4 (.tmp 44) (.tmp 41) rfl (w.heap.size + 2) 15 (.bool is) ?sx ?sy (rcells ⟨mm, false, 0, 0⟩) 40 ?sg ?si ?sf ?s1 (rcells ⟨mm, is, 0, 0⟩) ?sn ?_); (case sx => rfl); (case sy => rfl); (case sg => exact H4.out.box mz0); (case si => kernel_rfl); (case sf => exact Nat.le_of_ble_eq_true rfl); (case s1 => kernel_rfl); (case sn => rfl); intro w4 g4 r4 k4; have H5 := Lib.hid (H4.out.turned g4 r4 k4); clear g4 r4 k4)
  | ((with_reducible refine wpList_store_box (op := ⟨none, _, _, _, _, _⟩) rfl 29 (.tmp 45) (.tmp 42) rfl (w.heap.size + 2) 17 (.int .i64 er) ?sx ?sy (rcells ⟨mm, is, 0, 0⟩) 40 ?sg ?si ?sf ?s1 (rcells ⟨mm, is, 0, er⟩) ?sn ?_); (case sx => rfl); (case sy => rfl); (case sg => exact H5.out.box mz0); (case si => kernel_rfl); (case sf => exact Nat.le_of_ble_eq_true rfl); (case s1 => kernel_rfl); (case sn => rfl); intro w4 g4 r4 k4; have H6 := Lib.hid (H5.out.turned g4 r4 k4); clear g4 r4 k4)
  | ((with_reducible refine wpList_load_row (o := ⟨some 68, _, _, _, _, _⟩) rfl 40 (.tmp 5) rfl (w.heap.size + 2) ?lx 40 (rcells ⟨mm, is, 0, er⟩) (0, 0) _ ?lg Tryz.underlying40 ?ld ?li ?_); (case lx => rfl); (case lg => exact H6.out.box mz0); (case ld => rfl); (case li => kernel_rfl))
  | ((with_reducible refine wpList_store_row (o := ⟨none, _, _, _, _, _⟩) rfl 40 (.tmp 4) (.tmp 68) rfl (w.heap.size + 1) (rcells ⟨mm, is, 0, er⟩) ?sx ?sy 40 ?old ?sg ?si ?so ?s1 ?_); (case sx => rfl); (case sy => rfl); (case old => exact #[.int .i64 0, .int .i64 0, .int .i64 0, .int .i64 0, .int .i64 0, .int .i64 0, .int .i64 0, .int .i64 0, .int .i64 0, .int .i64 0, .int .i64 0, .int .i64 0, .int .i64 0, .int .i64 0, .int .i64 0, .bool false, .int .i64 0, .int .i64 0]); (case sg => exact H6.out.box mz1); (case si => kernel_rfl); (case so => rfl); (case s1 => kernel_rfl)))
 have H9 := Lib.hid (H6.out.swap.setRow (cs' := rcells ⟨mm, is, 0, er⟩))
 exact do_ret (r := ⟨mm, is, 0, er⟩) rfl rfl (H9.out.box mz0) (H9.out.drop.drop.drop.more (by omega))

set_option maxRecDepth 100000 in
set_option maxHeartbeats 4000000 in
theorem do_take (h : OwnP w0 K c core n s bx w) (hn : n ≤ 900) (x : Stp) (k0 : (x.k == 0) = false) (k1 : (x.k == 1) = false) (k2 : (x.k == 2) = true) :
  Calls Tryz.prog 12 #[ptr K.k, .agg (scells x)] w (RetP ⟨(takeP c core s x.m).1.1, (takeP c core s x.m).1.2.1, 0, (takeP c core s x.m).1.2.2⟩ (OwnP w0 K c core (n + 2) (takeP c core s x.m).2 bx)) := by
 have H0 := Lib.hid (h.add3 (.cells (scells x) 45) (.cells #[.int .i64 0, .int .i64 0, .int .i64 0, .int .i64 0, .int .i64 0, .int .i64 0, .int .i64 0, .int .i64 0, .int .i64 0, .int .i64 0, .int .i64 0, .int .i64 0, .int .i64 0, .int .i64 0, .int .i64 0, .bool false, .int .i64 0, .int .i64 0] 40) (.cells #[.int .i64 0, .int .i64 0, .int .i64 0, .int .i64 0, .int .i64 0, .int .i64 0, .int .i64 0, .int .i64 0, .int .i64 0, .int .i64 0, .int .i64 0, .int .i64 0, .int .i64 0, .int .i64 0, .int .i64 0, .bool false, .int .i64 0, .int .i64 0] 40))
 have HC := Lib.hid (fun w1 bx (h : OwnP w0 K c core n s bx w1) => h.take hn x.m)
 have hx := H0.out.cells mz2
 clear h
 generalize (takeP c core s x.m) = r at *
 obtain ⟨⟨mm, is, er⟩, s2⟩ := r
 show Calls _ _ _ _ (RetP ⟨mm, is, 0, er⟩ (OwnP w0 K c core (n + 2) s2 bx))
 go_enter Tryz.func12, Tryz.ntmps12
 go_wp2_with fail
 refine (HC.out _ _ H0.out).mono ?_
 rintro e w3 ⟨rfl, ho⟩
 have H3 := Lib.hid ho
 clear ho hx
 go_wp2_with (first
  | ((with_reducible refine wpList_store_box (op := ⟨none, _, _, _, _, _⟩) rfl 38 (.tmp 56) (.tmp 53) rfl (w.heap.size + 2) 0 (mv mm) ?sx ?sy (#[.int .i64 0, .int .i64 0, .int .i64 0, .int .i64 0, .int .i64 0, .int .i64 0, .int .i64 0, .int .i64 0, .int .i64 0, .int .i64 0, .int .i64 0, .int .i64 0, .int .i64 0, .int .i64 0, .int .i64 0, .bool false, .int .i64 0, .int .i64 0]) 40 ?sg ?si ?sf ?s1 (rcells ⟨mm, false, 0, 0⟩) ?sn ?_); (case sx => rfl); (case sy => rfl); (case sg => exact H3.out.box mz0); (case si => kernel_rfl); (case sf => exact Nat.le_of_ble_eq_true rfl); (case s1 => kernel_rfl); (case sn => rfl); intro w4 g4 r4 k4; have H4 := Lib.hid (H3.out.turned g4 r4 k4); clear g4 r4 k4)
  | ((with_reducible refine wpList_store_box (op := ⟨none, _, _, _, _, _⟩) rfl 4 (.tmp 57) (.tmp 54) rfl (w.heap.size + 2) 15 (.bool is) ?sx ?sy (rcells ⟨mm, false, 0, 0⟩) 40 ?sg ?si ?sf ?s1 (rcells ⟨mm, is, 0, 0⟩) ?sn ?_); (case sx => rfl); (case sy => rfl); (case sg => exact H4.out.box mz0); (case si => kernel_rfl); (case sf => exact Nat.le_of_ble_eq_true rfl); (case s1 => kernel_rfl); (case sn => rfl); intro w4 g4 r4 k4; have H5 := Lib.hid (H4.out.turned g4 r4 k4); clear g4 r4 k4)
  | ((with_reducible refine wpList_store_box (op := ⟨none, _, _, _, _, _⟩) rfl 29 (.tmp 58) (.tmp 55) rfl (w.heap.size + 2) 17 (.int .i64 er) ?sx ?sy (rcells ⟨mm, is, 0, 0⟩) 40 ?sg ?si ?sf ?s1 (rcells ⟨mm, is, 0, er⟩) ?sn ?_); (case sx => rfl); (case sy => rfl); (case sg => exact H5.out.box mz0); (case si => kernel_rfl); (case sf => exact Nat.le_of_ble_eq_true rfl); (case s1 => kernel_rfl); (case sn => rfl); intro w4 g4 r4 k4; have H6 := Lib.hid (H5.out.turned g4 r4 k4); clear g4 r4 k4)
  | ((with_reducible refine wpList_load_row (o := ⟨some 68, _, _, _, _, _⟩) rfl 40 (.tmp 5) rfl (w.heap.size + 2) ?lx 40 (rcells ⟨mm, is, 0, er⟩) (0, 0) _ ?lg Tryz.underlying40 ?ld ?li ?_); (case lx => rfl); (case lg => exact H6.out.box mz0); (case ld => rfl); (case li => kernel_rfl))
  | ((with_reducible refine wpList_store_row (o := ⟨none, _, _, _, _, _⟩) rfl 40 (.tmp 4) (.tmp 68) rfl (w.heap.size + 1) (rcells ⟨mm, is, 0, er⟩) ?sx ?sy 40 ?old ?sg ?si ?so ?s1 ?_); (case sx => rfl); (case sy => rfl); (case old => exact #[.int .i64 0, .int .i64 0, .int .i64 0, .int .i64 0, .int .i64 0, .int .i64 0, .int .i64 0, .int .i64 0, .int .i64 0, .int .i64 0, .int .i64 0, .int .i64 0, .int .i64 0, .int .i64 0, .int .i64 0, .bool false, .int .i64 0, .int .i64 0]); (case sg => exact H6.out.box mz1); (case si => kernel_rfl); (case so => rfl); (case s1 => kernel_rfl)))
 have H9 := Lib.hid (H6.out.swap.setRow (cs' := rcells ⟨mm, is, 0, er⟩))
 exact do_ret (r := ⟨mm, is, 0, er⟩) rfl rfl (H9.out.box mz0) (H9.out.drop.drop.drop.more (by omega))

set_option maxRecDepth 100000 in
set_option maxHeartbeats 4000000 in
theorem do_finish (h : OwnP w0 K c core n s bx w) (x : Stp) (k0 : (x.k == 0) = false) (k1 : (x.k == 1) = false) (k2 : (x.k == 2) = false) (k3 : (x.k == 3) = true) :
  Calls Tryz.prog 12 #[ptr K.k, .agg (scells x)] w (RetP ⟨(finishP c core s).1.1, (finishP c core s).1.2, 0, 0⟩ (OwnP w0 K c core (n + 2) (finishP c core s).2 bx)) := by
 have H0 := Lib.hid (h.add3 (.cells (scells x) 45) (.cells #[.int .i64 0, .int .i64 0, .int .i64 0, .int .i64 0, .int .i64 0, .int .i64 0, .int .i64 0, .int .i64 0, .int .i64 0, .int .i64 0, .int .i64 0, .int .i64 0, .int .i64 0, .int .i64 0, .int .i64 0, .bool false, .int .i64 0, .int .i64 0] 40) (.cells #[.int .i64 0, .int .i64 0, .int .i64 0, .int .i64 0, .int .i64 0, .int .i64 0, .int .i64 0, .int .i64 0, .int .i64 0, .int .i64 0, .int .i64 0, .int .i64 0, .int .i64 0, .int .i64 0, .int .i64 0, .bool false, .int .i64 0, .int .i64 0] 40))
 have HC := Lib.hid (fun w1 bx (h : OwnP w0 K c core n s bx w1) => h.finish)
 have hx := H0.out.cells mz2
 clear h
 generalize (finishP c core s) = r at *
 obtain ⟨⟨mm, is⟩, s2⟩ := r
 show Calls _ _ _ _ (RetP ⟨mm, is, 0, 0⟩ (OwnP w0 K c core (n + 2) s2 bx))
 go_enter Tryz.func12, Tryz.ntmps12
 go_wp2_with fail
 refine (HC.out _ _ H0.out).mono ?_
 rintro e w3 ⟨rfl, ho⟩
 have H3 := Lib.hid ho
 clear ho hx
 go_wp2_with (first
  | ((with_reducible refine wpList_store_box (op := ⟨none, _, _, _, _, _⟩) rfl 38 (.tmp 66) (.tmp 64) rfl (w.heap.size + 2) 0 (mv mm) ?sx ?sy (#[.int .i64 0, .int .i64 0, .int .i64 0, .int .i64 0, .int .i64 0, .int .i64 0, .int .i64 0, .int .i64 0, .int .i64 0, .int .i64 0, .int .i64 0, .int .i64 0, .int .i64 0, .int .i64 0, .int .i64 0, .bool false, .int .i64 0, .int .i64 0]) 40 ?sg ?si ?sf ?s1 (rcells ⟨mm, false, 0, 0⟩) ?sn ?_); (case sx => rfl); (case sy => rfl); (case sg => exact H3.out.box mz0); (case si => kernel_rfl); (case sf => exact Nat.le_of_ble_eq_true rfl); (case s1 => kernel_rfl); (case sn => rfl); intro w4 g4 r4 k4; have H4 := Lib.hid (H3.out.turned g4 r4 k4); clear g4 r4 k4)
  | ((with_reducible refine wpList_store_box (op := ⟨none, _, _, _, _, _⟩) rfl 4 (.tmp 67) (.tmp 65) rfl (w.heap.size + 2) 15 (.bool is) ?sx ?sy (rcells ⟨mm, false, 0, 0⟩) 40 ?sg ?si ?sf ?s1 (rcells ⟨mm, is, 0, 0⟩) ?sn ?_); (case sx => rfl); (case sy => rfl); (case sg => exact H4.out.box mz0); (case si => kernel_rfl); (case sf => exact Nat.le_of_ble_eq_true rfl); (case s1 => kernel_rfl); (case sn => rfl); intro w4 g4 r4 k4; have H5 := Lib.hid (H4.out.turned g4 r4 k4); clear g4 r4 k4)
  | ((with_reducible refine wpList_load_row (o := ⟨some 68, _, _, _, _, _⟩) rfl 40 (.tmp 5) rfl (w.heap.size + 2) ?lx 40 (rcells ⟨mm, is, 0, 0⟩) (0, 0) _ ?lg Tryz.underlying40 ?ld ?li ?_); (case lx => rfl); (case lg => exact H5.out.box mz0); (case ld => rfl); (case li => kernel_rfl))
  | ((with_reducible refine wpList_store_row (o := ⟨none, _, _, _, _, _⟩) rfl 40 (.tmp 4) (.tmp 68) rfl (w.heap.size + 1) (rcells ⟨mm, is, 0, 0⟩) ?sx ?sy 40 ?old ?sg ?si ?so ?s1 ?_); (case sx => rfl); (case sy => rfl); (case old => exact #[.int .i64 0, .int .i64 0, .int .i64 0, .int .i64 0, .int .i64 0, .int .i64 0, .int .i64 0, .int .i64 0, .int .i64 0, .int .i64 0, .int .i64 0, .int .i64 0, .int .i64 0, .int .i64 0, .int .i64 0, .bool false, .int .i64 0, .int .i64 0]); (case sg => exact H5.out.box mz1); (case si => kernel_rfl); (case so => rfl); (case s1 => kernel_rfl)))
 have H9 := Lib.hid (H5.out.swap.setRow (cs' := rcells ⟨mm, is, 0, 0⟩))
 exact do_ret (r := ⟨mm, is, 0, 0⟩) rfl rfl (H9.out.box mz0) (H9.out.drop.drop.drop.more (by omega))

set_option maxRecDepth 100000 in
set_option maxHeartbeats 4000000 in
theorem do_op (h : OwnP w0 K c core n s bx w) (x : Stp) (k0 : (x.k == 0) = false) (k1 : (x.k == 1) = false) (k2 : (x.k == 2) = false) (k3 : (x.k == 3) = false) :
  Calls Tryz.prog 12 #[ptr K.k, .agg (scells x)] w (RetP ⟨m0, false, (doP c s x.x).1.1, (doP c s x.x).1.2⟩ (OwnP w0 K c core (n + 2) (doP c s x.x).2 bx)) := by
 have H0 := Lib.hid (h.add3 (.cells (scells x) 45) (.cells #[.int .i64 0, .int .i64 0, .int .i64 0, .int .i64 0, .int .i64 0, .int .i64 0, .int .i64 0, .int .i64 0, .int .i64 0, .int .i64 0, .int .i64 0, .int .i64 0, .int .i64 0, .int .i64 0, .int .i64 0, .bool false, .int .i64 0, .int .i64 0] 40) (.cells #[.int .i64 0, .int .i64 0, .int .i64 0, .int .i64 0, .int .i64 0, .int .i64 0, .int .i64 0, .int .i64 0, .int .i64 0, .int .i64 0, .int .i64 0, .int .i64 0, .int .i64 0, .int .i64 0, .int .i64 0, .bool false, .int .i64 0, .int .i64 0] 40))
 have HC := Lib.hid (fun w1 bx (h : OwnP w0 K c core n s bx w1) => h.doX x.x)
 have hx := H0.out.cells mz2
 clear h
 generalize (doP c s x.x) = r at *
 obtain ⟨⟨nn, er⟩, s2⟩ := r
 show Calls _ _ _ _ (RetP ⟨m0, false, nn, er⟩ (OwnP w0 K c core (n + 2) s2 bx))
 go_enter Tryz.func12, Tryz.ntmps12
 go_wp2_with fail
 refine (HC.out _ _ H0.out).mono ?_
 rintro e w3 ⟨rfl, ho⟩
 have H3 := Lib.hid ho
 clear ho hx
 go_wp2_with (first
  | ((with_reducible refine wpList_store_box (op := ⟨none, _, _, _, _, _⟩) rfl 3 (.tmp 16) (.tmp 14) rfl (w.heap.size + 2) 16 (.int .i64 nn) ?sx ?sy (#[.int .i64 0, .int .i64 0, .int .i64 0, .int .i64 0, .int .i64 0, .int .i64 0, .int .i64 0, .int .i64 0, .int .i64 0, .int .i64 0, .int .i64 0, .int .i64 0, .int .i64 0, .int .i64 0, .int .i64 0, .bool false, .int .i64 0, .int .i64 0]) 40 ?sg ?si ?sf ?s1 (rcells ⟨m0, false, nn, 0⟩) ?sn ?_); (case sx => rfl); (case sy => rfl); (case sg => exact H3.out.box mz0); (case si => kernel_rfl); (case sf => exact Nat.le_of_ble_eq_true rfl); (case s1 => kernel_rfl); (case sn => rfl); intro w4 g4 r4 k4; have H4 := Lib.hid (H3.out.turned g4 r4 k4); clear g4 r4 k4)
  | ((with_reducible refine wpList_store_box (op := ⟨none, _, _, _, _, _⟩) rfl 29 (.tmp 17) (.tmp 15) rfl (w.heap.size + 2) 17 (.int .i64 er) ?sx ?sy (rcells ⟨m0, false, nn, 0⟩) 40 ?sg ?si ?sf ?s1 (rcells ⟨m0, false, nn, er⟩) ?sn ?_); (case sx => rfl); (case sy => rfl); (case sg => exact H4.out.box mz0); (case si => kernel_rfl); (case sf => exact Nat.le_of_ble_eq_true rfl); (case s1 => kernel_rfl); (case sn => rfl); intro w4 g4 r4 k4; have H5 := Lib.hid (H4.out.turned g4 r4 k4); clear g4 r4 k4)
  | ((with_reducible refine wpList_load_row (o := ⟨some 68, _, _, _, _, _⟩) rfl 40 (.tmp 5) rfl (w.heap.size + 2) ?lx 40 (rcells ⟨m0, false, nn, er⟩) (0, 0) _ ?lg Tryz.underlying40 ?ld ?li ?_); (case lx => rfl); (case lg => exact H5.out.box mz0); (case ld => rfl); (case li => kernel_rfl))
  | ((with_reducible refine wpList_store_row (o := ⟨none, _, _, _, _, _⟩) rfl 40 (.tmp 4) (.tmp 68) rfl (w.heap.size + 1) (rcells ⟨m0, false, nn, er⟩) ?sx ?sy 40 ?old ?sg ?si ?so ?s1 ?_); (case sx => rfl); (case sy => rfl); (case old => exact #[.int .i64 0, .int .i64 0, .int .i64 0, .int .i64 0, .int .i64 0, .int .i64 0, .int .i64 0, .int .i64 0, .int .i64 0, .int .i64 0, .int .i64 0, .int .i64 0, .int .i64 0, .int .i64 0, .int .i64 0, .bool false, .int .i64 0, .int .i64 0]); (case sg => exact H5.out.box mz1); (case si => kernel_rfl); (case so => rfl); (case s1 => kernel_rfl)))
 have H9 := Lib.hid (H5.out.swap.setRow (cs' := rcells ⟨m0, false, nn, er⟩))
 exact do_ret (r := ⟨m0, false, nn, er⟩) rfl rfl (H9.out.box mz0) (H9.out.drop.drop.drop.more (by omega))

theorem Own.stp (h : OwnP w0 K c core n s bx w) (hn : n ≤ 900) (x : Stp) :
  Calls Tryz.prog 12 #[ptr K.k, .agg (scells x)] w (RetP (doS c core s x).1 (OwnP w0 K c core (n + 2) (doS c core s x).2 bx)) := by
 unfold doS
 by_cases k0 : x.k = 0
 ·rw [if_pos k0]
  exact do_ask h x (by simpa using k0)
 ·rw [if_neg k0]
  have b0 : (x.k == 0) = false := by simpa using k0
  by_cases k1 : x.k = 1
  ·rw [if_pos k1]
   exact do_evict h x b0 (by simpa using k1)
  ·rw [if_neg k1]
   have b1 : (x.k == 1) = false := by simpa using k1
   by_cases k2 : x.k = 2
   ·rw [if_pos k2]
    exact do_take h hn x b0 b1 (by simpa using k2)
   ·rw [if_neg k2]
    have b2 : (x.k == 2) = false := by simpa using k2
    by_cases k3 : x.k = 3
    ·rw [if_pos k3]
     exact do_finish h x b0 b1 b2 (by simpa using k3)
    ·rw [if_neg k3]
     exact do_op h x b0 b1 b2 (by simpa using k3)

end Go.Proofs.YtlfhkjjjocmpbaaGreatDoor.Cc
