/-
  What Work of a home does.
-/
import Derived.Test.YtpknfbgnclgpmaaGreatDoorHoF
namespace Go.Proofs.YtpknfbgnclgpmaaGreatDoor.Ho
open Go Go.RowKit

theorem results_cell_three {P : Program} {fn : Func} {p q r : Tmp} {ty : TypeId} (h : fn.results = #[.cell p ty, .tmp q, .tmp r]) (tmps : Array Value) (w : World) (g : Nat) (t : TypeId) (cs : Array Value) (fr : Nat × Nat) (d : TypeDesc)
    (hp : tmps.getD p undef = .pointer (some ⟨g, 0, none⟩)) (hg : w.heap[g]? = some (.cells cs t fr))
    (hu : P.underlying ty = some d) (hd : (match d with | .struct _ | .array _ _ => true | _ => false) = true) (hi : (P.info? ty).map (·.size) = some cs.size) :
    (results fn tmps).run P w = .ok (.tuple #[.agg cs, tmps.getD q undef, tmps.getD r undef]) w := by
  have hp' : tmps[p]?.getD undef = .pointer (some ⟨g, 0, none⟩) := by simpa using hp
  simp [results, h, hp', asAddr, run_loadVar_row w g t ty cs fr d hg hu hd hi]
/-- What Work answers. -/
def RetW (r : Msg × Bool × Bool) (P : World → Prop) (e : Ending) (w' : World) : Prop := e = .returned (.tuple #[mv r.1, .bool r.2.1, .bool r.2.2]) ∧ P w'
theorem work_ret {wr : World} {r : Msg × Bool × Bool} {P : World → Prop} {a : Act} {g : Nat} (hp : a.tmps.getD 6 undef = .pointer (some ⟨g, 0, none⟩)) (hq : a.tmps.getD 7 undef = .bool r.2.1) (hn : a.tmps.getD 8 undef = .bool r.2.2) (hd : a.defers = []) (hg : wr.heap[g]? = some (.cells (mcells r.1) 38 (0, 0))) (hb : P wr) :
    bodyPost Tryz.prog Tryz.f26 (RetW r P) Exit.ret a wr :=
  bodyPost_ret (v := .tuple #[mv r.1, a.tmps.getD 7 undef, a.tmps.getD 8 undef]) (results_cell_three Tryz.results26 _ _ g 38 _ (0, 0) _ hp hg Tryz.underlying38 rfl (by kernel_rfl)) hd ⟨by rw [hq, hn], hb⟩
/-- What is to be sent next goes on one of two networks. -/
theorem Good.next {c : Cfg} {n : Int} {s : Hs} (h : Good c n s) {a : Int} (hn : (Qu.nextP s.Q a).2 = true) : ∃ (i : Nat) (x : Qu.En) (m : Msg) (r : List Msg), a = i ∧ s.Q[i]? = some x ∧ x.l = m :: r ∧ Qu.nextP s.Q a = (m, true) ∧ Sd n x.m.ln m ∧ (net m.kd = 1 ∨ net m.kd = 2) := by
  rcases Qu.inn_cases s.Q a with ho | ⟨i, x, rfl, hx⟩
  · rw [Qu.nextP_out ho] at hn; cases hn
  · rcases hs : x.l with _ | ⟨m, r⟩
    · rw [Qu.nextP_no hx hs] at hn; cases hn
    · have hd := h.sd x (List.mem_of_getElem? hx) m (by rw [hs]; exact List.mem_cons_self ..)
      refine ⟨i, x, m, r, rfl, hx, hs, Qu.nextP_yes hx hs, hd, ?_⟩
      rw [net_sd hd]
      split
      · exact .inl rfl
      · exact .inr rfl
theorem net_is {k v : Int} (h : net k = v) (w : World) : Calls Tryz.prog 58 #[.int .i64 k] w fun e w' => e = .returned (.int .i64 v) ∧ Below w.heap.size w w' := by
  subst h
  exact net_any k w

variable {w0 w w' wr : World} {K : Kb} {c : Cfg} {n : Int} {s : Hs} {X : Nat → Obj → Prop} {bx : Bx}
set_option maxRecDepth 100000 in
set_option maxHeartbeats 4000000 in
theorem Own.work_begins (h : Own w0 K c n s X bx w) (i : Nat) (x : Qu.En) (hx : s.Q[i]? = some x) (l0 l1 l2 : Int) (hr : Qu.rdy s.Q i = true) :
    Calls Tryz.prog 26 #[ptr K.h, .int .i64 i, .agg #[.int .i64 l0, .int .i64 l1, .int .i64 l2]] w (RetW (mz, false, true) (Own w0 K c n (beginX c s i x.m) X bx)) := by
  have H0 := Lib.hid (h.add2 (.cells #[.int .i64 l0, .int .i64 l1, .int .i64 l2] 22) (.cells Qu.zmc 38))
  have HR := Lib.hid (fun w1 bx (h : Own w0 K c n s X bx w1) => h.readyR i hr)
  have HBg := Lib.hid (fun w1 bx (h : Own w0 K c n s X bx w1) => h.beginF i x hx hr)
  have hk := H0.out.hc
  clear h hx hr
  generalize beginX c s i x.m = s2 at *
  go_enter Tryz.func26, Tryz.ntmps26
  go_wp2_with (first
    | (go_at_call 60; refine (HR.out _ _ H0.out).mono ?_; rintro _ w1 ⟨rfl, hb1⟩; have H1 := Lib.hid (H0.out.step hb1); clear hk hb1 H0)
    | (go_at_call 61; refine (HBg.out _ _ H1.out).mono ?_; rintro _ w2 ⟨⟨u, rfl⟩, h2⟩; have H2 := Lib.hid h2; clear h2 H1)
    | ((with_reducible refine wpList_store_row (o := ⟨none, _, _, _, _, _⟩) rfl 38 (.tmp 6) (.tmp 20) rfl (w.heap.size + 1) Qu.zmc ?sx ?sy 38 ?old ?sg ?si ?so ?s1 ?_); (case sx => rfl); (case sy => rfl); (case old => exact Qu.zmc); (case sg => exact H2.out.box (List.mem_cons_self ..)); (case si => kernel_rfl); (case so => rfl); (case s1 => kernel_rfl)))
  exact work_ret (r := (mz, false, true)) rfl rfl rfl rfl (setRow_heap _ _ _ _ _ _ (H2.out.box (List.mem_cons_self ..))) H2.out.setRow.drop.drop
set_option maxRecDepth 100000 in
set_option maxHeartbeats 4000000 in
theorem Own.work_none (h : Own w0 K c n s X bx w) (a : Int) (l0 l1 l2 : Int) (hr : Qu.rdy s.Q a = false) (hn : (Qu.nextP s.Q a).2 = false) :
    Calls Tryz.prog 26 #[ptr K.h, .int .i64 a, .agg #[.int .i64 l0, .int .i64 l1, .int .i64 l2]] w (RetW (mz, false, false) (Own w0 K c n s X bx)) := by
  have H0 := Lib.hid (h.add2 (.cells #[.int .i64 l0, .int .i64 l1, .int .i64 l2] 22) (.cells Qu.zmc 38))
  have HR := Lib.hid (fun w1 bx (h : Own w0 K c n s X bx w1) => h.readyR a hr)
  obtain ⟨m, hm⟩ : ∃ m, Qu.nextP s.Q a = (m, false) := ⟨(Qu.nextP s.Q a).1, by rw [← hn]⟩
  have HN := Lib.hid (fun w1 bx (h : Own w0 K c n s X bx w1) => h.nextR a hm)
  have hk := H0.out.hc
  clear h hr hn hm
  go_enter Tryz.func26, Tryz.ntmps26
  go_wp2_with (first
    | (go_at_call 60; refine (HR.out _ _ H0.out).mono ?_; rintro _ w1 ⟨rfl, hb1⟩; have H1 := Lib.hid (H0.out.step hb1); have hk1 := H1.out.hc; clear hk hb1 H0)
    | (go_at_call 62; refine (HN.out _ _ H1.out).mono ?_; rintro _ w2 ⟨rfl, hb2⟩; have H2 := Lib.hid ((H1.out.step hb2).addRow Qu.zmc (mcells m) 38); clear hk1 hb2 H1)
    | ((with_reducible refine wpList_store_row (o := ⟨none, _, _, _, _, _⟩) rfl 38 (.tmp 9) (.tmp 28) rfl w2.heap.size (mcells m) ?sx ?sy 38 ?old ?sg ?si ?so ?s1 ?_); (case sx => rfl); (case sy => rfl); (case old => exact Qu.zmc); (case sg => exact heap_alloc_new w2 _); (case si => kernel_rfl); (case so => rfl); (case s1 => kernel_rfl); generalize World.setRow _ w2.heap.size (mcells m) = w3 at *; generalize w2.heap.size = g3 at *)
    | ((with_reducible refine wpList_store_row (o := ⟨none, _, _, _, _, _⟩) rfl 38 (.tmp 6) (.tmp 40) rfl (w.heap.size + 1) Qu.zmc ?sx ?sy 38 ?old ?sg ?si ?so ?s1 ?_); (case sx => rfl); (case sy => rfl); (case old => exact Qu.zmc); (case sg => exact H2.out.box (List.mem_cons_of_mem _ (List.mem_cons_self ..))); (case si => kernel_rfl); (case so => rfl); (case s1 => kernel_rfl)))
  exact work_ret (r := (mz, false, false)) rfl rfl rfl rfl (setRow_heap _ _ _ _ _ _ (H2.out.box (List.mem_cons_of_mem _ (List.mem_cons_self ..)))) H2.out.setRow1.drop.drop.drop
set_option maxRecDepth 100000 in
set_option maxHeartbeats 8000000 in
theorem Own.work_next (h : Own w0 K c n s X bx w) (a : Int) (l0 l1 l2 : Int) (hr : Qu.rdy s.Q a = false) (hn : (Qu.nextP s.Q a).2 = true) :
    Calls Tryz.prog 26 #[ptr K.h, .int .i64 a, .agg #[.int .i64 l0, .int .i64 l1, .int .i64 l2]] w (RetW (if leftP l0 l1 l2 (net (Qu.nextP s.Q a).1.kd) ≤ 0 then (mz, false, false) else ((Qu.nextP s.Q a).1, true, true)) (Own w0 K c n (if leftP l0 l1 l2 (net (Qu.nextP s.Q a).1.kd) ≤ 0 then s else { s with Q := (Qu.sentP s.Q a).2 }) X bx)) := by
  obtain ⟨i, x, m, r, rfl, hx, hs, hm, hd, hk2⟩ := h.gd.next hn
  rw [hm]
  simp only
  have H0 := Lib.hid (h.add2 (.cells #[.int .i64 l0, .int .i64 l1, .int .i64 l2] 22) (.cells Qu.zmc 38))
  have HR := Lib.hid (fun w1 bx (h : Own w0 K c n s X bx w1) => h.readyR i hr)
  have HN := Lib.hid (fun w1 bx (h : Own w0 K c n s X bx w1) => h.nextR i hm)
  have HS := Lib.hid (fun w1 bx (h : Own w0 K c n s X bx w1) => h.sentR i)
  have hk := H0.out.hc
  generalize { s with Q := (Qu.sentP s.Q i).2 } = s2 at *
  generalize (Qu.sentP s.Q i).1 = n2 at *
  clear h hr hn hm hx hs hd
  rcases hk2 with hk2 | hk2
  · have HNt := Lib.hid (fun w1 => net_is hk2 w1)
    have hl : leftP l0 l1 l2 1 = l1 := rfl
    rw [hk2, hl]
    clear hk2 hl
    by_cases hle : l1 ≤ 0
    · rw [if_pos hle, if_pos hle]
      have hle' : decide (l1 ≤ 0) = true := by simpa using hle
      go_enter Tryz.func26, Tryz.ntmps26
      go_wp2_with (first
        | (go_at_call 60; refine (HR.out _ _ H0.out).mono ?_; rintro _ w1 ⟨rfl, hb1⟩; have H1 := Lib.hid (H0.out.step hb1); have hk1 := H1.out.hc; clear hk hb1 H0)
        | (go_at_call 62; refine (HN.out _ _ H1.out).mono ?_; rintro _ w2 ⟨rfl, hb2⟩; have H2 := Lib.hid ((H1.out.step hb2).addRow Qu.zmc (mcells m) 38); clear hk1 hb2 H1)
        | ((with_reducible refine wpList_store_row (o := ⟨none, _, _, _, _, _⟩) rfl 38 (.tmp 9) (.tmp 28) rfl (w2.heap.size) (mcells m) ?sx ?sy 38 ?old ?sg ?si ?so ?s1 ?_); (case sx => rfl); (case sy => rfl); (case old => exact Qu.zmc); (case sg => exact heap_alloc_new w2 _); (case si => kernel_rfl); (case so => rfl); (case s1 => kernel_rfl); generalize World.setRow _ w2.heap.size (mcells m) = w3 at *; generalize w2.heap.size = g3 at *; have hm3 := H2.out.cells (List.mem_cons_self ..))
        | (go_at_call 58; refine (HNt.out _).mono ?_; rintro _ w4 ⟨rfl, hb4⟩; have H4 := Lib.hid (H2.out.step hb4); have hl4 := H4.out.cells (List.mem_cons_of_mem _ (List.mem_cons_of_mem _ (List.mem_cons_self ..))); have hk4 := H4.out.hc; clear hm3 hb4 H2)
        | ((with_reducible refine wpList_store_row (o := ⟨none, _, _, _, _, _⟩) rfl 38 (.tmp 6) (.tmp 40) rfl (w.heap.size + 1) (Qu.zmc) ?sx ?sy 38 ?old ?sg ?si ?so ?s1 ?_); (case sx => rfl); (case sy => rfl); (case old => exact Qu.zmc); (case sg => exact H4.out.box (List.mem_cons_of_mem _ (List.mem_cons_self ..))); (case si => kernel_rfl); (case so => rfl); (case s1 => kernel_rfl)))
      exact work_ret (r := (mz, false, false)) rfl rfl rfl rfl (setRow_heap _ _ _ _ _ _ (H4.out.box (List.mem_cons_of_mem _ (List.mem_cons_self ..)))) H4.out.setRow1.drop.drop.drop
    · rw [if_neg hle, if_neg hle]
      have hle' : decide (l1 ≤ 0) = false := by simpa using hle
      go_enter Tryz.func26, Tryz.ntmps26
      go_wp2_with (first
        | (go_at_call 60; refine (HR.out _ _ H0.out).mono ?_; rintro _ w1 ⟨rfl, hb1⟩; have H1 := Lib.hid (H0.out.step hb1); have hk1 := H1.out.hc; clear hk hb1 H0)
        | (go_at_call 62; refine (HN.out _ _ H1.out).mono ?_; rintro _ w2 ⟨rfl, hb2⟩; have H2 := Lib.hid ((H1.out.step hb2).addRow Qu.zmc (mcells m) 38); clear hk1 hb2 H1)
        | ((with_reducible refine wpList_store_row (o := ⟨none, _, _, _, _, _⟩) rfl 38 (.tmp 9) (.tmp 28) rfl (w2.heap.size) (mcells m) ?sx ?sy 38 ?old ?sg ?si ?so ?s1 ?_); (case sx => rfl); (case sy => rfl); (case old => exact Qu.zmc); (case sg => exact heap_alloc_new w2 _); (case si => kernel_rfl); (case so => rfl); (case s1 => kernel_rfl); generalize World.setRow _ w2.heap.size (mcells m) = w3 at *; generalize w2.heap.size = g3 at *; have hm3 := H2.out.cells (List.mem_cons_self ..))
        | (go_at_call 58; refine (HNt.out _).mono ?_; rintro _ w4 ⟨rfl, hb4⟩; have H4 := Lib.hid (H2.out.step hb4); have hl4 := H4.out.cells (List.mem_cons_of_mem _ (List.mem_cons_of_mem _ (List.mem_cons_self ..))); have hk4 := H4.out.hc; clear hm3 hb4 H2)
        | (go_at_call 63; refine (HS.out _ _ H4.out).mono ?_; rintro _ w5 ⟨rfl, h5⟩; have H5 := Lib.hid h5; clear h5 hl4 hk4 H4)
        | ((with_reducible refine wpList_load_row (o := ⟨some 47, _, _, _, _, _⟩) rfl 38 (.tmp 9) rfl g3 ?lx 38 (mcells m) (0, 0) _ ?lg Tryz.underlying38 ?ld ?li ?_); (case lx => rfl); (case lg => exact H5.out.box (List.mem_cons_self ..)); (case ld => rfl); (case li => kernel_rfl))
        | ((with_reducible refine wpList_store_row (o := ⟨none, _, _, _, _, _⟩) rfl 38 (.tmp 6) (.tmp 47) rfl (w.heap.size + 1) (mcells m) ?sx ?sy 38 ?old ?sg ?si ?so ?s1 ?_); (case sx => rfl); (case sy => rfl); (case old => exact Qu.zmc); (case sg => exact H5.out.box (List.mem_cons_of_mem _ (List.mem_cons_self ..))); (case si => kernel_rfl); (case so => rfl); (case s1 => kernel_rfl)))
      exact work_ret (r := (m, true, true)) rfl rfl rfl rfl (setRow_heap _ _ _ _ _ _ (H5.out.box (List.mem_cons_of_mem _ (List.mem_cons_self ..)))) H5.out.setRow1.drop.drop.drop
  · have HNt := Lib.hid (fun w1 => net_is hk2 w1)
    have hl : leftP l0 l1 l2 2 = l2 := rfl
    rw [hk2, hl]
    clear hk2 hl
    by_cases hle : l2 ≤ 0
    · rw [if_pos hle, if_pos hle]
      have hle' : decide (l2 ≤ 0) = true := by simpa using hle
      go_enter Tryz.func26, Tryz.ntmps26
      go_wp2_with (first
        | (go_at_call 60; refine (HR.out _ _ H0.out).mono ?_; rintro _ w1 ⟨rfl, hb1⟩; have H1 := Lib.hid (H0.out.step hb1); have hk1 := H1.out.hc; clear hk hb1 H0)
        | (go_at_call 62; refine (HN.out _ _ H1.out).mono ?_; rintro _ w2 ⟨rfl, hb2⟩; have H2 := Lib.hid ((H1.out.step hb2).addRow Qu.zmc (mcells m) 38); clear hk1 hb2 H1)
        | ((with_reducible refine wpList_store_row (o := ⟨none, _, _, _, _, _⟩) rfl 38 (.tmp 9) (.tmp 28) rfl (w2.heap.size) (mcells m) ?sx ?sy 38 ?old ?sg ?si ?so ?s1 ?_); (case sx => rfl); (case sy => rfl); (case old => exact Qu.zmc); (case sg => exact heap_alloc_new w2 _); (case si => kernel_rfl); (case so => rfl); (case s1 => kernel_rfl); generalize World.setRow _ w2.heap.size (mcells m) = w3 at *; generalize w2.heap.size = g3 at *; have hm3 := H2.out.cells (List.mem_cons_self ..))
        | (go_at_call 58; refine (HNt.out _).mono ?_; rintro _ w4 ⟨rfl, hb4⟩; have H4 := Lib.hid (H2.out.step hb4); have hl4 := H4.out.cells (List.mem_cons_of_mem _ (List.mem_cons_of_mem _ (List.mem_cons_self ..))); have hk4 := H4.out.hc; clear hm3 hb4 H2)
        | ((with_reducible refine wpList_store_row (o := ⟨none, _, _, _, _, _⟩) rfl 38 (.tmp 6) (.tmp 40) rfl (w.heap.size + 1) (Qu.zmc) ?sx ?sy 38 ?old ?sg ?si ?so ?s1 ?_); (case sx => rfl); (case sy => rfl); (case old => exact Qu.zmc); (case sg => exact H4.out.box (List.mem_cons_of_mem _ (List.mem_cons_self ..))); (case si => kernel_rfl); (case so => rfl); (case s1 => kernel_rfl)))
      exact work_ret (r := (mz, false, false)) rfl rfl rfl rfl (setRow_heap _ _ _ _ _ _ (H4.out.box (List.mem_cons_of_mem _ (List.mem_cons_self ..)))) H4.out.setRow1.drop.drop.drop
    · rw [if_neg hle, if_neg hle]
      have hle' : decide (l2 ≤ 0) = false := by simpa using hle
      go_enter Tryz.func26, Tryz.ntmps26
      go_wp2_with (first
        | (go_at_call 60; refine (HR.out _ _ H0.out).mono ?_; rintro _ w1 ⟨rfl, hb1⟩; have H1 := Lib.hid (H0.out.step hb1); have hk1 := H1.out.hc; clear hk hb1 H0)
        | (go_at_call 62; refine (HN.out _ _ H1.out).mono ?_; rintro _ w2 ⟨rfl, hb2⟩; have H2 := Lib.hid ((H1.out.step hb2).addRow Qu.zmc (mcells m) 38); clear hk1 hb2 H1)
        | ((with_reducible refine wpList_store_row (o := ⟨none, _, _, _, _, _⟩) rfl 38 (.tmp 9) (.tmp 28) rfl (w2.heap.size) (mcells m) ?sx ?sy 38 ?old ?sg ?si ?so ?s1 ?_); (case sx => rfl); (case sy => rfl); (case old => exact Qu.zmc); (case sg => exact heap_alloc_new w2 _); (case si => kernel_rfl); (case so => rfl); (case s1 => kernel_rfl); generalize World.setRow _ w2.heap.size (mcells m) = w3 at *; generalize w2.heap.size = g3 at *; have hm3 := H2.out.cells (List.mem_cons_self ..))
        | (go_at_call 58; refine (HNt.out _).mono ?_; rintro _ w4 ⟨rfl, hb4⟩; have H4 := Lib.hid (H2.out.step hb4); have hl4 := H4.out.cells (List.mem_cons_of_mem _ (List.mem_cons_of_mem _ (List.mem_cons_self ..))); have hk4 := H4.out.hc; clear hm3 hb4 H2)
        | (go_at_call 63; refine (HS.out _ _ H4.out).mono ?_; rintro _ w5 ⟨rfl, h5⟩; have H5 := Lib.hid h5; clear h5 hl4 hk4 H4)
        | ((with_reducible refine wpList_load_row (o := ⟨some 47, _, _, _, _, _⟩) rfl 38 (.tmp 9) rfl g3 ?lx 38 (mcells m) (0, 0) _ ?lg Tryz.underlying38 ?ld ?li ?_); (case lx => rfl); (case lg => exact H5.out.box (List.mem_cons_self ..)); (case ld => rfl); (case li => kernel_rfl))
        | ((with_reducible refine wpList_store_row (o := ⟨none, _, _, _, _, _⟩) rfl 38 (.tmp 6) (.tmp 47) rfl (w.heap.size + 1) (mcells m) ?sx ?sy 38 ?old ?sg ?si ?so ?s1 ?_); (case sx => rfl); (case sy => rfl); (case old => exact Qu.zmc); (case sg => exact H5.out.box (List.mem_cons_of_mem _ (List.mem_cons_self ..))); (case si => kernel_rfl); (case so => rfl); (case s1 => kernel_rfl)))
      exact work_ret (r := (m, true, true)) rfl rfl rfl rfl (setRow_heap _ _ _ _ _ _ (H5.out.box (List.mem_cons_of_mem _ (List.mem_cons_self ..)))) H5.out.setRow1.drop.drop.drop
/-- Work. -/
theorem Own.workF (h : Own w0 K c n s X bx w) (a : Int) (l0 l1 l2 : Int) :
    Calls Tryz.prog 26 #[ptr K.h, .int .i64 a, .agg #[.int .i64 l0, .int .i64 l1, .int .i64 l2]] w (RetW (workP c s a l0 l1 l2).1 (Own w0 K c n (workP c s a l0 l1 l2).2 X bx)) := by
  unfold workP
  rcases Bool.eq_false_or_eq_true (Qu.rdy s.Q a) with hr | hr
  · rw [if_pos hr]
    rcases Qu.inn_cases s.Q a with ho | ⟨i, x, rfl, hx⟩
    · rw [Qu.rdy_out ho] at hr; cases hr
    · have hb : beginP c s i = beginX c s i x.m := by unfold beginP; rw [Qu.getP_at hx]
      rw [hb]
      exact h.work_begins i x hx l0 l1 l2 hr
  · rw [if_neg (by simp [hr])]
    rcases Bool.eq_false_or_eq_true (Qu.nextP s.Q a).2 with hn | hn
    · have := h.work_next a l0 l1 l2 hr hn
      by_cases hl : leftP l0 l1 l2 (net (Qu.nextP s.Q a).1.kd) ≤ 0
      · have hg : goesB s a l0 l1 l2 = false := by unfold goesB; rw [hn]; simpa using hl
        rw [if_pos hg]
        rwa [if_pos hl, if_pos hl] at this
      · have hg : ¬ goesB s a l0 l1 l2 = false := by unfold goesB; rw [hn]; simpa using hl
        rw [if_neg hg]
        rwa [if_neg hl, if_neg hl] at this
    · have hg : goesB s a l0 l1 l2 = false := by unfold goesB; rw [hn]; rfl
      rw [if_pos hg]
      exact h.work_none a l0 l1 l2 hr hn

end Go.Proofs.YtpknfbgnclgpmaaGreatDoor.Ho
