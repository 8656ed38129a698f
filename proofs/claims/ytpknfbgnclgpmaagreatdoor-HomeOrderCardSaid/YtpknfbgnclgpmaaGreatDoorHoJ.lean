/-
  A step of the law upon a home.
-/
import Derived.Test.YtpknfbgnclgpmaaGreatDoorHoI
namespace Go.Proofs.YtpknfbgnclgpmaaGreatDoor.Ho
open Go Go.RowKit

abbrev scells (x : Sp) : Array Value := #[.int .i64 x.k, .int .i64 x.n, .int .i64 x.a, .int .i64 x.b, .int .i64 x.d, .int .i64 x.m.kd, .int .i64 x.m.ln, .int .i64 x.m.fr, .int .i64 x.m.to, .int .i64 x.m.wh, .int .i64 x.m.ac, .int .i64 x.m.ow, .int .i64 x.m.w0, .int .i64 x.m.w1, .int .i64 x.m.w2, .int .i64 x.m.w3, .int .i64 x.m.w4, .int .i64 x.m.w5, .int .i64 x.m.w6, .int .i64 x.m.w7]
abbrev rcs (r : Rp) : Array Value := #[.int .i64 r.1.kd, .int .i64 r.1.ln, .int .i64 r.1.fr, .int .i64 r.1.to, .int .i64 r.1.wh, .int .i64 r.1.ac, .int .i64 r.1.ow, .int .i64 r.1.w0, .int .i64 r.1.w1, .int .i64 r.1.w2, .int .i64 r.1.w3, .int .i64 r.1.w4, .int .i64 r.1.w5, .int .i64 r.1.w6, .int .i64 r.1.w7, .bool r.2.1, .bool r.2.2.1, .int .i64 r.2.2.2]

/-! A store into a box that is known whole: the world behind it is a variable. -/
theorem run_store_any {P : Program} (w : World) (b o : Nat) (ty : TypeId) (v : Value) (ht : w.there b o v.cells.size) (hi : (P.info? ty).map (·.size) = some v.cells.size) (h1 : ∀ u ∈ v.cells.toList, u.oneCell' = true) :
    (storeVar ty ⟨b, o, none⟩ v).run P w = .ok () (w.setCells b o v.cells.toList) := by
  have := run_storeCells_cells (P := P) b o v.cells.toList 0 w (fun j hj => by simpa using (ht j (by simpa using hj)).1) (fun j hj => by simpa using (ht j (by simpa using hj)).2) h1
  cases hq : P.info? ty with
  | none => simp [hq] at hi
  | some i =>
    have hs : v.cells.size = i.size := by simp [hq] at hi; omega
    simp only [Nat.add_zero] at this
    simp [storeVar, sizeOf, typeInfo, hq, hs, this]
theorem wpList_store_box {P : Program} {ops : Array Oper} {rest : List Oper} {op : Oper} {a : Act} {w : World} {Q : Exit → Act → World → Prop} (hgd : op.guard = none) (ty : TypeId) (x y : Operand) (ho : op.op = .store ty x y)
    (b o : Nat) (v : Value) (hx : a.eval x = .pointer (some ⟨b, o, none⟩)) (hy : a.eval y = v) (cur : Array Value) (t : TypeId) (hg : w.heap[b]? = some (.cells cur t (0, 0))) (hi : (P.info? ty).map (·.size) = some v.cells.size) (hfit : o + v.cells.size ≤ cur.size) (h1 : (v.cells.toList.all fun u => u.oneCell') = true)
    (new : Array Value) (hnew : (cur.toList.take o ++ v.cells.toList ++ cur.toList.drop (o + v.cells.toList.length)).toArray = new)
    (h : ∀ w', w'.heap[b]? = some (.cells new t (0, 0)) → w.grownBy w' (some b) → wpList P ops Q rest (a.put op.dst undef) w') : wpList P ops Q (op :: rest) a w := by
  refine wpList_plain hgd fun K hK => ?_
  have hth : w.there b o v.cells.size := fun j hj => ⟨by rw [Qu.blk_cell hg, Array.getElem?_eq_getElem (by omega)]; rfl, Qu.blk_free hg _⟩
  have hrun := run_store_any (P := P) w b o ty v hth hi (List.all_eq_true.1 h1)
  unfold Oper.wp execOp
  simp only [ho, hx, hy, Instr.storeAt, Instr.sureAddr, Sem.run_bind, Sem.run_pure, Result.andThen_ok, hrun]
  obtain ⟨r1, r2, r3, r4⟩ := Qu.setCells_rest b v.cells.toList o w
  refine hK _ _ (h _ ?_ ⟨r1, r2, r3, Nat.le_of_eq r4.symm, fun k _ hne => Qu.heap_setCells_other b _ o w k (fun e => hne (by rw [e]))⟩)
  rw [Qu.heap_setCells_row b t v.cells.toList o cur w hg (by simpa using hfit), hnew]
variable {w0 w w' wr wr' : World} {K : Kb} {c : Cfg} {n : Int} {s : Hs} {X : Nat → Obj → Prop} {bx : Bx}
/-- The first box is another one. -/
theorem Own.turned {m : Nat} {o o' : Obj} (h : Own w0 K c n s X ((m, o) :: bx) wr) (ho : wr'.heap[m]? = some o') (hg : wr.grownBy wr' (some m)) : Own w0 K c n s X ((m, o') :: bx) wr' :=
  h.boxed fun _ q => ((q.perm List.perm_middle).goes (Qu.mv_turn hg ho)).perm List.perm_middle.symm
theorem Own.add3 (h : Own w0 K c n s X bx w) (o1 o2 o3 : Obj) : Own w0 K c n s X ((w.heap.size + 2, o3) :: (w.heap.size + 1, o2) :: (w.heap.size, o1) :: bx) (((w.alloc o1).alloc o2).alloc o3) := by
  have := (h.add2 o1 o2).add o3
  rwa [show ((w.alloc o1).alloc o2).heap.size = w.heap.size + 2 by simp] at this
theorem Own.swap {p q : Nat × Obj} (h : Own w0 K c n s X (p :: q :: bx) w) : Own w0 K c n s X (q :: p :: bx) w := h.perm (List.Perm.swap _ _ _)
def RetD (r : Rp) (P : World → Prop) (e : Ending) (w' : World) : Prop := e = .returned (.agg (rcs r)) ∧ P w'
theorem do_ret {wr : World} {r : Rp} {P : World → Prop} {a : Act} {g : Nat} (hp : a.tmps.getD 4 undef = .pointer (some ⟨g, 0, none⟩)) (hd : a.defers = []) (hg : wr.heap[g]? = some (.cells (rcs r) 42 (0, 0))) (hb : P wr) :
    bodyPost Tryz.prog Tryz.f10 (RetD r P) Exit.ret a wr :=
  bodyPost_ret (v := .agg (rcs r)) (results_cell_row Tryz.results10 _ _ g 42 _ (0, 0) _ hp hg Tryz.underlying42 rfl (by kernel_rfl)) hd ⟨rfl, hb⟩
set_option maxRecDepth 100000 in
set_option maxHeartbeats 4000000 in
theorem Own.do_accept (h : Own w0 K c n s X bx w) (x : Sp) (k0 : (x.k == 0) = true) :
    Calls Tryz.prog 10 #[ptr K.h, .agg (scells x)] w (RetD (mz, false, false, (acceptP c n s x.m).1) (Own w0 K c n (acceptP c n s x.m).2 X bx)) := by
  have H0 := Lib.hid (h.add3 (.cells (scells x) 40) (.cells (rcs (mz, false, false, 0)) 42) (.cells (rcs (mz, false, false, 0)) 42))
  have HC := Lib.hid (fun w1 bx (h : Own w0 K c n s X bx w1) => h.acceptF x.m)
  have hx := H0.out.cells (List.mem_cons_of_mem _ (List.mem_cons_of_mem _ (List.mem_cons_self ..)))
  clear h
  generalize (acceptP c n s x.m) = r at *
  obtain ⟨er, s2⟩ := r
  show Calls _ _ _ _ (RetD (mz, false, false, er) (Own w0 K c n s2 X bx))
  go_enter Tryz.func10, Tryz.ntmps10
  go_wp2_with fail
  refine (HC.out _ _ H0.out).mono ?_
  rintro e w3 ⟨rfl, ho⟩
  have H3 := Lib.hid ho
  clear ho hx
  go_wp2_with (first
    | ((with_reducible refine wpList_store_box (op := ⟨none, _, _, _, _, _⟩) rfl 29 (.tmp 20) (.tmp 19) rfl (w.heap.size + 2) 17 (.int .i64 er) ?sx ?sy (rcs (mz, false, false, 0)) 42 ?sg ?si ?sf ?s1 (rcs (mz, false, false, er)) ?sn ?_); (case sx => rfl); (case sy => rfl); (case sg => exact H3.out.box (List.mem_cons_self ..)); (case si => kernel_rfl); (case sf => exact Nat.le_of_ble_eq_true rfl); (case s1 => kernel_rfl); (case sn => rfl); intro w4 g4 r4; have H4 := Lib.hid (H3.out.turned g4 r4); clear g4 r4)
    | ((with_reducible refine wpList_load_row (o := ⟨some 36, _, _, _, _, _⟩) rfl 42 (.tmp 5) rfl (w.heap.size + 2) ?lx 42 (rcs (mz, false, false, er)) (0, 0) _ ?lg Tryz.underlying42 ?ld ?li ?_); (case lx => rfl); (case lg => exact H4.out.box (List.mem_cons_self ..)); (case ld => rfl); (case li => kernel_rfl))
    | ((with_reducible refine wpList_store_row (o := ⟨none, _, _, _, _, _⟩) rfl 42 (.tmp 4) (.tmp 36) rfl (w.heap.size + 1) (rcs (mz, false, false, er)) ?sx ?sy 42 ?old ?sg ?si ?so ?s1 ?_); (case sx => rfl); (case sy => rfl); (case old => exact rcs (mz, false, false, 0)); (case sg => exact H4.out.box (List.mem_cons_of_mem _ (List.mem_cons_self ..))); (case si => kernel_rfl); (case so => rfl); (case s1 => kernel_rfl)))
  have H9 := Lib.hid (H4.out.swap.setRow (cs' := rcs (mz, false, false, er)))
  exact do_ret (r := (mz, false, false, er)) rfl rfl (H9.out.box (List.mem_cons_self ..)) H9.out.drop.drop.drop
set_option maxRecDepth 100000 in
set_option maxHeartbeats 4000000 in
theorem Own.do_work (h : Own w0 K c n s X bx w) (x : Sp) (k0 : (x.k == 0) = false) (k1 : (x.k == 1) = true) :
    Calls Tryz.prog 10 #[ptr K.h, .agg (scells x)] w (RetD ((workP c s x.n x.a x.b x.d).1.1, (workP c s x.n x.a x.b x.d).1.2.1, (workP c s x.n x.a x.b x.d).1.2.2, 0) (Own w0 K c n (workP c s x.n x.a x.b x.d).2 X bx)) := by
  have H0 := Lib.hid (h.add3 (.cells (scells x) 40) (.cells (rcs (mz, false, false, 0)) 42) (.cells (rcs (mz, false, false, 0)) 42))
  have HC := Lib.hid (fun w1 bx (h : Own w0 K c n s X bx w1) => h.workF x.n x.a x.b x.d)
  have hx := H0.out.cells (List.mem_cons_of_mem _ (List.mem_cons_of_mem _ (List.mem_cons_self ..)))
  clear h
  generalize (workP c s x.n x.a x.b x.d) = r at *
  obtain ⟨⟨mm, is, did⟩, s2⟩ := r
  show Calls _ _ _ _ (RetD (mm, is, did, 0) (Own w0 K c n s2 X bx))
  go_enter Tryz.func10, Tryz.ntmps10
  go_wp2_with fail
  refine (HC.out _ _ H0.out).mono ?_
  rintro e w3 ⟨rfl, ho⟩
  have H3 := Lib.hid ho
  clear ho hx
  go_wp2_with (first
    | ((with_reducible refine wpList_store_box (op := ⟨none, _, _, _, _, _⟩) rfl 38 (.tmp 33) (.tmp 30) rfl (w.heap.size + 2) 0 (mv mm) ?sx ?sy (rcs (mz, false, false, 0)) 42 ?sg ?si ?sf ?s1 (rcs (mm, false, false, 0)) ?sn ?_); (case sx => rfl); (case sy => rfl); (case sg => exact H3.out.box (List.mem_cons_self ..)); (case si => kernel_rfl); (case sf => exact Nat.le_of_ble_eq_true rfl); (case s1 => kernel_rfl); (case sn => rfl); intro w4 g4 r4; have H4 := Lib.hid (H3.out.turned g4 r4); clear g4 r4)
    | ((with_reducible refine wpList_store_box (op := ⟨none, _, _, _, _, _⟩) rfl 4 (.tmp 34) (.tmp 31) rfl (w.heap.size + 2) 15 (.bool is) ?sx ?sy (rcs (mm, false, false, 0)) 42 ?sg ?si ?sf ?s1 (rcs (mm, is, false, 0)) ?sn ?_); (case sx => rfl); (case sy => rfl); (case sg => exact H4.out.box (List.mem_cons_self ..)); (case si => kernel_rfl); (case sf => exact Nat.le_of_ble_eq_true rfl); (case s1 => kernel_rfl); (case sn => rfl); intro w4 g4 r4; have H5 := Lib.hid (H4.out.turned g4 r4); clear g4 r4)
    | ((with_reducible refine wpList_store_box (op := ⟨none, _, _, _, _, _⟩) rfl 4 (.tmp 35) (.tmp 32) rfl (w.heap.size + 2) 16 (.bool did) ?sx ?sy (rcs (mm, is, false, 0)) 42 ?sg ?si ?sf ?s1 (rcs (mm, is, did, 0)) ?sn ?_); (case sx => rfl); (case sy => rfl); (case sg => exact H5.out.box (List.mem_cons_self ..)); (case si => kernel_rfl); (case sf => exact Nat.le_of_ble_eq_true rfl); (case s1 => kernel_rfl); (case sn => rfl); intro w4 g4 r4; have H6 := Lib.hid (H5.out.turned g4 r4); clear g4 r4)
    | ((with_reducible refine wpList_load_row (o := ⟨some 36, _, _, _, _, _⟩) rfl 42 (.tmp 5) rfl (w.heap.size + 2) ?lx 42 (rcs (mm, is, did, 0)) (0, 0) _ ?lg Tryz.underlying42 ?ld ?li ?_); (case lx => rfl); (case lg => exact H6.out.box (List.mem_cons_self ..)); (case ld => rfl); (case li => kernel_rfl))
    | ((with_reducible refine wpList_store_row (o := ⟨none, _, _, _, _, _⟩) rfl 42 (.tmp 4) (.tmp 36) rfl (w.heap.size + 1) (rcs (mm, is, did, 0)) ?sx ?sy 42 ?old ?sg ?si ?so ?s1 ?_); (case sx => rfl); (case sy => rfl); (case old => exact rcs (mz, false, false, 0)); (case sg => exact H6.out.box (List.mem_cons_of_mem _ (List.mem_cons_self ..))); (case si => kernel_rfl); (case so => rfl); (case s1 => kernel_rfl)))
  have H9 := Lib.hid (H6.out.swap.setRow (cs' := rcs (mm, is, did, 0)))
  exact do_ret (r := (mm, is, did, 0)) rfl rfl (H9.out.box (List.mem_cons_self ..)) H9.out.drop.drop.drop
set_option maxRecDepth 100000 in
set_option maxHeartbeats 4000000 in
theorem Own.do_done (h : Own w0 K c n s X bx w) (x : Sp) (k0 : (x.k == 0) = false) (k1 : (x.k == 1) = false) :
    Calls Tryz.prog 10 #[ptr K.h, .agg (scells x)] w (RetD (mz, false, false, (doneP c n s x.m).1) (Own w0 K c n (doneP c n s x.m).2 X bx)) := by
  have H0 := Lib.hid (h.add3 (.cells (scells x) 40) (.cells (rcs (mz, false, false, 0)) 42) (.cells (rcs (mz, false, false, 0)) 42))
  have HC := Lib.hid (fun w1 bx (h : Own w0 K c n s X bx w1) => h.doneF x.m)
  have hx := H0.out.cells (List.mem_cons_of_mem _ (List.mem_cons_of_mem _ (List.mem_cons_self ..)))
  clear h
  generalize (doneP c n s x.m) = r at *
  obtain ⟨er, s2⟩ := r
  show Calls _ _ _ _ (RetD (mz, false, false, er) (Own w0 K c n s2 X bx))
  go_enter Tryz.func10, Tryz.ntmps10
  go_wp2_with fail
  refine (HC.out _ _ H0.out).mono ?_
  rintro e w3 ⟨rfl, ho⟩
  have H3 := Lib.hid ho
  clear ho hx
  go_wp2_with (first
    | ((with_reducible refine wpList_store_box (op := ⟨none, _, _, _, _, _⟩) rfl 29 (.tmp 13) (.tmp 12) rfl (w.heap.size + 2) 17 (.int .i64 er) ?sx ?sy (rcs (mz, false, false, 0)) 42 ?sg ?si ?sf ?s1 (rcs (mz, false, false, er)) ?sn ?_); (case sx => rfl); (case sy => rfl); (case sg => exact H3.out.box (List.mem_cons_self ..)); (case si => kernel_rfl); (case sf => exact Nat.le_of_ble_eq_true rfl); (case s1 => kernel_rfl); (case sn => rfl); intro w4 g4 r4; have H4 := Lib.hid (H3.out.turned g4 r4); clear g4 r4)
    | ((with_reducible refine wpList_load_row (o := ⟨some 36, _, _, _, _, _⟩) rfl 42 (.tmp 5) rfl (w.heap.size + 2) ?lx 42 (rcs (mz, false, false, er)) (0, 0) _ ?lg Tryz.underlying42 ?ld ?li ?_); (case lx => rfl); (case lg => exact H4.out.box (List.mem_cons_self ..)); (case ld => rfl); (case li => kernel_rfl))
    | ((with_reducible refine wpList_store_row (o := ⟨none, _, _, _, _, _⟩) rfl 42 (.tmp 4) (.tmp 36) rfl (w.heap.size + 1) (rcs (mz, false, false, er)) ?sx ?sy 42 ?old ?sg ?si ?so ?s1 ?_); (case sx => rfl); (case sy => rfl); (case old => exact rcs (mz, false, false, 0)); (case sg => exact H4.out.box (List.mem_cons_of_mem _ (List.mem_cons_self ..))); (case si => kernel_rfl); (case so => rfl); (case s1 => kernel_rfl)))
  have H9 := Lib.hid (H4.out.swap.setRow (cs' := rcs (mz, false, false, er)))
  exact do_ret (r := (mz, false, false, er)) rfl rfl (H9.out.box (List.mem_cons_self ..)) H9.out.drop.drop.drop
/-- A step. -/
theorem Own.doF (h : Own w0 K c n s X bx w) (x : Sp) :
    Calls Tryz.prog 10 #[ptr K.h, .agg (scells x)] w (RetD (doP c n s x).1 (Own w0 K c n (doP c n s x).2 X bx)) := by
  unfold doP
  by_cases h0 : x.k = 0
  · rw [if_pos h0]
    exact h.do_accept x (by simpa using h0)
  rw [if_neg h0]
  by_cases h1 : x.k = 1
  · rw [if_pos h1]
    exact h.do_work x (by simpa using h0) (by simpa using h1)
  · rw [if_neg h1]
    exact h.do_done x (by simpa using h0) (by simpa using h1)

end Go.Proofs.YtpknfbgnclgpmaaGreatDoor.Ho
