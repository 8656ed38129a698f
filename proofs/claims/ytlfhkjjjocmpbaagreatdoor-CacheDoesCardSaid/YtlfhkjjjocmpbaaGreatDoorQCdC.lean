import Derived.Test.YtlfhkjjjocmpbaaGreatDoorSx
import Derived.Test.YtlfhkjjjocmpbaaGreatDoorQGdA
import Derived.Test.YtlfhkjjjocmpbaaGreatDoorQCcJ
import Derived.Test.YtlfhkjjjocmpbaaGreatDoorQGcR
import Derived.BigQuiet
import Derived.Deep.CutBlock
import Derived.Deep.DeepCutAuto

namespace Go.Proofs.YtlfhkjjjocmpbaaGreatDoor.Cc
open Go Go.RowKit

variable {w0 w w' : World} {bx : Bx} {K : Kb} {c : Cfg} {core n : Int} {s : St}
theorem Own.setRow1 {ty : Tys} {p : Nat × Obj} {m : Nat} {cs cs' : Array Value} {T : TypeId} (h : Own ty w0 K c core n s (p :: (m, .cells cs T (0, 0)) :: bx) w) : Own ty w0 K c core n s (p :: (m, .cells cs' T (0, 0)) :: bx) (w.setRow m cs') := h.swap.setRow.swap
theorem Own.setRow2 {ty : Tys} {p q : Nat × Obj} {m : Nat} {cs cs' : Array Value} {T : TypeId} (h : Own ty w0 K c core n s (p :: q :: (m, .cells cs T (0, 0)) :: bx) w) : Own ty w0 K c core n s (p :: q :: (m, .cells cs' T (0, 0)) :: bx) (w.setRow m cs') :=
 ((h.perm (List.perm_middle (l₁ := [p, q]))).setRow (cs' := cs')).perm (List.perm_middle (l₁ := [p, q])).symm
theorem Own.setRow3 {ty : Tys} {p q r : Nat × Obj} {m : Nat} {cs cs' : Array Value} {T : TypeId} (h : Own ty w0 K c core n s (p :: q :: r :: (m, .cells cs T (0, 0)) :: bx) w) : Own ty w0 K c core n s (p :: q :: r :: (m, .cells cs' T (0, 0)) :: bx) (w.setRow m cs') :=
 ((h.perm (List.perm_middle (l₁ := [p, q, r]))).setRow (cs' := cs')).perm (List.perm_middle (l₁ := [p, q, r])).symm
theorem Own.setRow4 {ty : Tys} {p q r t : Nat × Obj} {m : Nat} {cs cs' : Array Value} {T : TypeId} (h : Own ty w0 K c core n s (p :: q :: r :: t :: (m, .cells cs T (0, 0)) :: bx) w) : Own ty w0 K c core n s (p :: q :: r :: t :: (m, .cells cs' T (0, 0)) :: bx) (w.setRow m cs') :=
 ((h.perm (List.perm_middle (l₁ := [p, q, r, t]))).setRow (cs' := cs')).perm (List.perm_middle (l₁ := [p, q, r, t])).symm

theorem Own.fcell {ty : Tys} (h : Own ty w0 K c core n s bx w) : ∃ p cap, ∀ o, w.cell? ⟨K.f, o, none⟩ = (#[.int .i64 c.ms, .slice p s.F.length cap] : Array Value)[o]? := by
 obtain ⟨v, hv, -⟩ := h.fl
 obtain ⟨p, cap, rfl, -⟩ := Mh.own_ins hv.row
 exact ⟨p, cap, c_cell hv.blk⟩
theorem Own.bcell {ty : Tys} (h : Own ty w0 K c core n s bx w) : ∃ p cap, ∀ o, w.cell? ⟨K.b, o, none⟩ = (#[.int .i64 c.wb, .slice p s.B.length cap] : Array Value)[o]? := by
 obtain ⟨v, hv, -⟩ := h.bf
 obtain ⟨p, cap, rfl, -⟩ := Wb.own_ins hv.row
 exact ⟨p, cap, c_cell hv.blk⟩
theorem Inv.line_of (h : Inv c s) {m : Mh.Ms} (hm : m ∈ s.F) : 0 ≤ m.ln ∧ m.ln < c.li := by
 have h1 : m.ln ∈ lkd s.A := h.pm.mem_iff.2 (List.mem_map.2 ⟨m, hm, rfl⟩)
 obtain ⟨x, hx, hk, hl⟩ := mem_lkd.1 h1
 obtain ⟨i, hi⟩ := List.mem_iff_getElem?.1 hx
 have h2 := (h.gA.ins i x hi (tk_lk hk)).1
 rw [hl] at h2
 exact (ok_of_lnOk h2).2
theorem dask_ret {wr : World} {m : Msg} {er : Int} {P : World → Prop} {a : Act} {g : Nat} (hp : a.tmps.getD 6 undef = .pointer (some ⟨g, 0, none⟩)) (hn : a.tmps.getD 7 undef = .int .i64 er) (hd : a.defers = []) (hg : wr.heap[g]? = some (.cells (mcells m) 38 (0, 0))) (hb : P wr) :
  bodyPost Tryz.prog Tryz.f36 (RetA m er P) Exit.ret a wr :=
 bodyPost_ret (v := .tuple #[mv m, a.tmps.getD 7 undef]) (Ar.results_cell_two Tryz.results36 _ _ g 38 _ (0, 0) _ hp hg Tryz.underlying38 rfl (by kernel_rfl)) hd ⟨by rw [hn], hb⟩
theorem dfin_ret {wr : World} {m : Msg} {q : Bool} {P : World → Prop} {a : Act} {g : Nat} (hp : a.tmps.getD 2 undef = .pointer (some ⟨g, 0, none⟩)) (hn : a.tmps.getD 3 undef = .bool q) (hd : a.defers = []) (hg : wr.heap[g]? = some (.cells (mcells m) 38 (0, 0))) (hb : P wr) :
  bodyPost Tryz.prog Tryz.f39 (RetB m q P) Exit.ret a wr :=
 bodyPost_ret (v := .tuple #[mv m, a.tmps.getD 3 undef]) (Ar.results_cell_two Tryz.results39 _ _ g 38 _ (0, 0) _ hp hg Tryz.underlying38 rfl (by kernel_rfl)) hd ⟨by rw [hn], hb⟩

set_option maxRecDepth 100000 in
set_option maxHeartbeats 1000000 in
theorem dask_arg (h : OwnD w0 K c core n s bx w) (line kind : Int) (hr : line < 0 ∨ c.li ≤ line ∨ (kind ≠ 1 ∧ kind ≠ 2)) :
  Calls Tryz.prog 36 #[ptr K.k, .int .i64 line, .int .i64 kind] w (RetA m0 1 (OwnD w0 K c core n s bx)) := by
 have H0 := Lib.hid (h.add2 (.cells #[.int .i64 0, .int .i64 0, .int .i64 0, .int .i64 0, .int .i64 0, .int .i64 0, .int .i64 0, .int .i64 0, .int .i64 0, .int .i64 0, .int .i64 0, .int .i64 0, .int .i64 0, .int .i64 0, .int .i64 0] 38) (.cells #[.int .i64 0, .int .i64 0, .int .i64 0, .int .i64 0, .int .i64 0, .int .i64 0, .int .i64 0, .int .i64 0, .int .i64 0, .int .i64 0, .int .i64 0, .int .i64 0, .int .i64 0, .int .i64 0, .int .i64 0] 38))
 have hw : (line < 0) ∨ (¬ line < 0 ∧ c.li ≤ line) ∨ (¬ line < 0 ∧ ¬ c.li ≤ line ∧ (kind != 1) = true ∧ (kind != 2) = true) := by
  by_cases a : line < 0
  ·exact .inl a
  ·by_cases b : c.li ≤ line
   ·exact .inr (.inl ⟨a, b⟩)
   ·have hk := (hr.resolve_left a).resolve_left b
    exact .inr (.inr ⟨a, b, by simpa using hk.1, by simpa using hk.2⟩)
 have hk := H0.out.kc
 have h6 := H0.out.box mz1
 have h8 := H0.out.box mz0
 clear h hr
 rcases hw with a | ⟨a, b⟩ | ⟨a, b, d, e⟩
 all_goals
  go_enter Tryz.func36, Tryz.ntmps36
  go_wp2_with (first
   | ((with_reducible refine wpList_load_row (o := ⟨some 35, _, _, _, _, _⟩) rfl 38 (.tmp 8) rfl (w.heap.size + 1) ?lx 38 (#[.int .i64 0, .int .i64 0, .int .i64 0, .int .i64 0, .int .i64 0, .int .i64 0, .int .i64 0, .int .i64 0, .int .i64 0, .int .i64 0, .int .i64 0, .int .i64 0, .int .i64 0, .int .i64 0, .int .i64 0]) (0, 0) _ ?lg Tryz.underlying38 ?ld ?li ?_); (case lx => rfl); (case lg => exact h8); (case ld => rfl); (case li => kernel_rfl))
   | ((with_reducible refine wpList_store_row (o := ⟨none, _, _, _, _, _⟩) rfl 38 (.tmp 6) (.tmp 35) rfl (w.heap.size) (#[.int .i64 0, .int .i64 0, .int .i64 0, .int .i64 0, .int .i64 0, .int .i64 0, .int .i64 0, .int .i64 0, .int .i64 0, .int .i64 0, .int .i64 0, .int .i64 0, .int .i64 0, .int .i64 0, .int .i64 0]) ?sx ?sy 38 ?old ?sg ?si ?so ?s1 ?_); (case sx => rfl); (case sy => rfl); (case old => exact #[.int .i64 0, .int .i64 0, .int .i64 0, .int .i64 0, .int .i64 0, .int .i64 0, .int .i64 0, .int .i64 0, .int .i64 0, .int .i64 0, .int .i64 0, .int .i64 0, .int .i64 0, .int .i64 0, .int .i64 0]); (case sg => exact h6); (case si => kernel_rfl); (case so => rfl); (case s1 => kernel_rfl)))
  exact dask_ret rfl rfl rfl (setRow_heap _ _ _ _ _ _ h6) H0.out.setRow1.drop.drop
set_option maxRecDepth 100000 in
set_option maxHeartbeats 4000000 in
theorem dask_miss (h : OwnD w0 K c core n s bx w) (line kind : Int) {gx : Mh.Ms} (hl : 0 ≤ line ∧ line < c.li) (hkd : (kind != 1) = false ∨ (kind != 1) = true ∧ (kind != 2) = false) (hg : Mh.getP s.F line = (gx, true))  :
  Calls Tryz.prog 36 #[ptr K.k, .int .i64 line, .int .i64 kind] w (RetA m0 6 (OwnD w0 K c core n s bx)) := by
 have H0 := Lib.hid (h.add2 (.cells #[.int .i64 0, .int .i64 0, .int .i64 0, .int .i64 0, .int .i64 0, .int .i64 0, .int .i64 0, .int .i64 0, .int .i64 0, .int .i64 0, .int .i64 0, .int .i64 0, .int .i64 0, .int .i64 0, .int .i64 0] 38) (.cells #[.int .i64 0, .int .i64 0, .int .i64 0, .int .i64 0, .int .i64 0, .int .i64 0, .int .i64 0, .int .i64 0, .int .i64 0, .int .i64 0, .int .i64 0, .int .i64 0, .int .i64 0, .int .i64 0, .int .i64 0] 38))
 have HG := Lib.hid (H0.out.dget line)
 rw [hg] at HG
 have g0 : ¬ line < 0 := by omega
 have g1 : ¬ c.li ≤ line := by omega
 have hk := H0.out.kc
 clear h hg
 rcases hkd with k1 | ⟨k1, k2⟩
 all_goals
  go_enter Tryz.func36, Tryz.ntmps36
  go_wp2_with fail
  refine HG.out.mono ?_
  rintro e w1 ⟨rfl, hb1⟩
  have H1 := Lib.hid ((H0.out.step hb1).add (.cells (Mh.mcells gx) 75))
  have hk1 := H1.out.kc
  clear hb1 hk HG
  have h6 := H1.out.box mz2
  have h8 := H1.out.box mz1
  go_wp2_with (first
   | ((with_reducible refine wpList_load_row (o := ⟨some 61, _, _, _, _, _⟩) rfl 38 (.tmp 8) rfl (w.heap.size + 1) ?lx 38 (#[.int .i64 0, .int .i64 0, .int .i64 0, .int .i64 0, .int .i64 0, .int .i64 0, .int .i64 0, .int .i64 0, .int .i64 0, .int .i64 0, .int .i64 0, .int .i64 0, .int .i64 0, .int .i64 0, .int .i64 0]) (0, 0) _ ?lg Tryz.underlying38 ?ld ?li ?_); (case lx => rfl); (case lg => exact h8); (case ld => rfl); (case li => kernel_rfl))
   | ((with_reducible refine wpList_store_row (o := ⟨none, _, _, _, _, _⟩) rfl 38 (.tmp 6) (.tmp 61) rfl (w.heap.size) (#[.int .i64 0, .int .i64 0, .int .i64 0, .int .i64 0, .int .i64 0, .int .i64 0, .int .i64 0, .int .i64 0, .int .i64 0, .int .i64 0, .int .i64 0, .int .i64 0, .int .i64 0, .int .i64 0, .int .i64 0]) ?sx ?sy 38 ?old ?sg ?si ?so ?s1 ?_); (case sx => rfl); (case sy => rfl); (case old => exact #[.int .i64 0, .int .i64 0, .int .i64 0, .int .i64 0, .int .i64 0, .int .i64 0, .int .i64 0, .int .i64 0, .int .i64 0, .int .i64 0, .int .i64 0, .int .i64 0, .int .i64 0, .int .i64 0, .int .i64 0]); (case sg => exact h6); (case si => kernel_rfl); (case so => rfl); (case s1 => kernel_rfl)))
  exact dask_ret rfl rfl rfl (setRow_heap _ _ _ _ _ _ h6) H1.out.setRow2.drop.drop.drop
set_option maxRecDepth 100000 in
set_option maxHeartbeats 4000000 in
theorem dask_put (h : OwnD w0 K c core n s bx w) (line kind : Int) {gx : Mh.Ms} {pl : Int} (hl : 0 ≤ line ∧ line < c.li) (hkd : (kind != 1) = false ∨ (kind != 1) = true ∧ (kind != 2) = false) (hg : Mh.getP s.F line = (gx, false)) (hp : Wb.oi (Wb.fnd s.B line) = pl) (hpl : 0 ≤ pl) :
  Calls Tryz.prog 36 #[ptr K.k, .int .i64 line, .int .i64 kind] w (RetA m0 6 (OwnD w0 K c core n s bx)) := by
 have H0 := Lib.hid (h.add2 (.cells #[.int .i64 0, .int .i64 0, .int .i64 0, .int .i64 0, .int .i64 0, .int .i64 0, .int .i64 0, .int .i64 0, .int .i64 0, .int .i64 0, .int .i64 0, .int .i64 0, .int .i64 0, .int .i64 0, .int .i64 0] 38) (.cells #[.int .i64 0, .int .i64 0, .int .i64 0, .int .i64 0, .int .i64 0, .int .i64 0, .int .i64 0, .int .i64 0, .int .i64 0, .int .i64 0, .int .i64 0, .int .i64 0, .int .i64 0, .int .i64 0, .int .i64 0] 38))
 have HG := Lib.hid (H0.out.dget line)
 have HP := Lib.hid (fun w1 bx (h : OwnD w0 K c core n s bx w1) => h.dplace line)
 rw [hg] at HG
 rw [hp] at HP
 have g0 : ¬ line < 0 := by omega
 have g1 : ¬ c.li ≤ line := by omega
 have hk := H0.out.kc
 clear h hg hp
 rcases hkd with k1 | ⟨k1, k2⟩
 all_goals
  go_enter Tryz.func36, Tryz.ntmps36
  go_wp2_with fail
  refine HG.out.mono ?_
  rintro e w1 ⟨rfl, hb1⟩
  have H1 := Lib.hid ((H0.out.step hb1).add (.cells (Mh.mcells gx) 75))
  have hk1 := H1.out.kc
  clear hb1 hk HG
  go_wp2_with fail
  refine (HP.out _ _ H1.out).mono ?_
  rintro e w2 ⟨rfl, rfl⟩
  have h6 := H1.out.box mz2
  have h8 := H1.out.box mz1
  go_wp2_with (first
   | ((with_reducible refine wpList_load_row (o := ⟨some 61, _, _, _, _, _⟩) rfl 38 (.tmp 8) rfl (w.heap.size + 1) ?lx 38 (#[.int .i64 0, .int .i64 0, .int .i64 0, .int .i64 0, .int .i64 0, .int .i64 0, .int .i64 0, .int .i64 0, .int .i64 0, .int .i64 0, .int .i64 0, .int .i64 0, .int .i64 0, .int .i64 0, .int .i64 0]) (0, 0) _ ?lg Tryz.underlying38 ?ld ?li ?_); (case lx => rfl); (case lg => exact h8); (case ld => rfl); (case li => kernel_rfl))
   | ((with_reducible refine wpList_store_row (o := ⟨none, _, _, _, _, _⟩) rfl 38 (.tmp 6) (.tmp 61) rfl (w.heap.size) (#[.int .i64 0, .int .i64 0, .int .i64 0, .int .i64 0, .int .i64 0, .int .i64 0, .int .i64 0, .int .i64 0, .int .i64 0, .int .i64 0, .int .i64 0, .int .i64 0, .int .i64 0, .int .i64 0, .int .i64 0]) ?sx ?sy 38 ?old ?sg ?si ?so ?s1 ?_); (case sx => rfl); (case sy => rfl); (case old => exact #[.int .i64 0, .int .i64 0, .int .i64 0, .int .i64 0, .int .i64 0, .int .i64 0, .int .i64 0, .int .i64 0, .int .i64 0, .int .i64 0, .int .i64 0, .int .i64 0, .int .i64 0, .int .i64 0, .int .i64 0]); (case sg => exact h6); (case si => kernel_rfl); (case so => rfl); (case s1 => kernel_rfl)))
  exact dask_ret rfl rfl rfl (setRow_heap _ _ _ _ _ _ h6) H1.out.setRow2.drop.drop.drop
set_option maxRecDepth 100000 in
set_option maxHeartbeats 4000000 in
theorem dask_can (h : OwnD w0 K c core n s bx w) (line kind : Int) {gx : Mh.Ms} {pl : Int} (hl : 0 ≤ line ∧ line < c.li) (hkd : (kind != 1) = false ∨ (kind != 1) = true ∧ (kind != 2) = false) (hg : Mh.getP s.F line = (gx, false)) (hp : Wb.oi (Wb.fnd s.B line) = pl) (hc : canB (look c s line) kind = true) (hpl : ¬ 0 ≤ pl) :
  Calls Tryz.prog 36 #[ptr K.k, .int .i64 line, .int .i64 kind] w (RetA m0 6 (OwnD w0 K c core n s bx)) := by
 have H0 := Lib.hid (h.add2 (.cells #[.int .i64 0, .int .i64 0, .int .i64 0, .int .i64 0, .int .i64 0, .int .i64 0, .int .i64 0, .int .i64 0, .int .i64 0, .int .i64 0, .int .i64 0, .int .i64 0, .int .i64 0, .int .i64 0, .int .i64 0] 38) (.cells #[.int .i64 0, .int .i64 0, .int .i64 0, .int .i64 0, .int .i64 0, .int .i64 0, .int .i64 0, .int .i64 0, .int .i64 0, .int .i64 0, .int .i64 0, .int .i64 0, .int .i64 0, .int .i64 0, .int .i64 0] 38))
 have HG := Lib.hid (H0.out.dget line)
 have HP := Lib.hid (fun w1 bx (h : OwnD w0 K c core n s bx w1) => h.dplace line)
 have HC := Lib.hid (fun w1 bx (h : OwnD w0 K c core n s bx w1) => h.dcan line kind)
 rw [hg] at HG
 rw [hp] at HP
 rw [hc] at HC
 have g0 : ¬ line < 0 := by omega
 have g1 : ¬ c.li ≤ line := by omega
 have hk := H0.out.kc
 clear h hg hp hc
 rcases hkd with k1 | ⟨k1, k2⟩
 all_goals
  go_enter Tryz.func36, Tryz.ntmps36
  go_wp2_with fail
  refine HG.out.mono ?_
  rintro e w1 ⟨rfl, hb1⟩
  have H1 := Lib.hid ((H0.out.step hb1).add (.cells (Mh.mcells gx) 75))
  have hk1 := H1.out.kc
  clear hb1 hk HG
  go_wp2_with fail
  refine (HP.out _ _ H1.out).mono ?_
  rintro e w2 ⟨rfl, rfl⟩
  go_wp2_with fail
  refine (HC.out _ _ H1.out).mono ?_
  rintro e w2 ⟨rfl, hb2⟩
  replace H1 := Lib.hid (H1.out.step hb2)
  clear hb2 hk1
  have h6 := H1.out.box mz2
  have h8 := H1.out.box mz1
  go_wp2_with (first
   | ((with_reducible refine wpList_load_row (o := ⟨some 61, _, _, _, _, _⟩) rfl 38 (.tmp 8) rfl (w.heap.size + 1) ?lx 38 (#[.int .i64 0, .int .i64 0, .int .i64 0, .int .i64 0, .int .i64 0, .int .i64 0, .int .i64 0, .int .i64 0, .int .i64 0, .int .i64 0, .int .i64 0, .int .i64 0, .int .i64 0, .int .i64 0, .int .i64 0]) (0, 0) _ ?lg Tryz.underlying38 ?ld ?li ?_); (case lx => rfl); (case lg => exact h8); (case ld => rfl); (case li => kernel_rfl))
   | ((with_reducible refine wpList_store_row (o := ⟨none, _, _, _, _, _⟩) rfl 38 (.tmp 6) (.tmp 61) rfl (w.heap.size) (#[.int .i64 0, .int .i64 0, .int .i64 0, .int .i64 0, .int .i64 0, .int .i64 0, .int .i64 0, .int .i64 0, .int .i64 0, .int .i64 0, .int .i64 0, .int .i64 0, .int .i64 0, .int .i64 0, .int .i64 0]) ?sx ?sy 38 ?old ?sg ?si ?so ?s1 ?_); (case sx => rfl); (case sy => rfl); (case old => exact #[.int .i64 0, .int .i64 0, .int .i64 0, .int .i64 0, .int .i64 0, .int .i64 0, .int .i64 0, .int .i64 0, .int .i64 0, .int .i64 0, .int .i64 0, .int .i64 0, .int .i64 0, .int .i64 0, .int .i64 0]); (case sg => exact h6); (case si => kernel_rfl); (case so => rfl); (case s1 => kernel_rfl)))
  exact dask_ret rfl rfl rfl (setRow_heap _ _ _ _ _ _ h6) H1.out.setRow2.drop.drop.drop
set_option maxRecDepth 100000 in
set_option maxHeartbeats 4000000 in
theorem dask_full (h : OwnD w0 K c core n s bx w) (line kind : Int) {gx : Mh.Ms} {pl : Int} (hl : 0 ≤ line ∧ line < c.li) (hkd : (kind != 1) = false ∨ (kind != 1) = true ∧ (kind != 2) = false) (hg : Mh.getP s.F line = (gx, false)) (hp : Wb.oi (Wb.fnd s.B line) = pl) (hc : canB (look c s line) kind = false) (hpl : ¬ 0 ≤ pl) (hfl : c.ms ≤ (s.F.length : Int)) :
  Calls Tryz.prog 36 #[ptr K.k, .int .i64 line, .int .i64 kind] w (RetA m0 4 (OwnD w0 K c core n s bx)) := by
 have H0 := Lib.hid (h.add2 (.cells #[.int .i64 0, .int .i64 0, .int .i64 0, .int .i64 0, .int .i64 0, .int .i64 0, .int .i64 0, .int .i64 0, .int .i64 0, .int .i64 0, .int .i64 0, .int .i64 0, .int .i64 0, .int .i64 0, .int .i64 0] 38) (.cells #[.int .i64 0, .int .i64 0, .int .i64 0, .int .i64 0, .int .i64 0, .int .i64 0, .int .i64 0, .int .i64 0, .int .i64 0, .int .i64 0, .int .i64 0, .int .i64 0, .int .i64 0, .int .i64 0, .int .i64 0] 38))
 have HG := Lib.hid (H0.out.dget line)
 have HP := Lib.hid (fun w1 bx (h : OwnD w0 K c core n s bx w1) => h.dplace line)
 have HC := Lib.hid (fun w1 bx (h : OwnD w0 K c core n s bx w1) => h.dcan line kind)
 rw [hg] at HG
 rw [hp] at HP
 rw [hc] at HC
 have g0 : ¬ line < 0 := by omega
 have g1 : ¬ c.li ≤ line := by omega
 have hk := H0.out.kc
 clear h hg hp hc
 rcases hkd with k1 | ⟨k1, k2⟩
 all_goals
  go_enter Tryz.func36, Tryz.ntmps36
  go_wp2_with fail
  refine HG.out.mono ?_
  rintro e w1 ⟨rfl, hb1⟩
  have H1 := Lib.hid ((H0.out.step hb1).add (.cells (Mh.mcells gx) 75))
  have hk1 := H1.out.kc
  clear hb1 hk HG
  go_wp2_with fail
  refine (HP.out _ _ H1.out).mono ?_
  rintro e w2 ⟨rfl, rfl⟩
  go_wp2_with fail
  refine (HC.out _ _ H1.out).mono ?_
  rintro e w2 ⟨rfl, hb2⟩
  replace H1 := Lib.hid (H1.out.step hb2)
  clear hb2 hk1
  have hk1 := H1.out.kc
  obtain ⟨fp, fc, hf⟩ := H1.out.fcell
  go_wp2_with fail
  go_quiet (fail)
  generalize hw3 : World.drewN w2 _ = w3
  replace H1 : Hid (OwnD w0 K c core n s _ w3) := Lib.hid (by rw [← hw3]; exact H1.out.drewN _)
  clear hk1 hf hw3
  have h6 := H1.out.box mz2
  have h8 := H1.out.box mz1
  go_wp2_with (first
   | ((with_reducible refine wpList_load_row (o := ⟨some 76, _, _, _, _, _⟩) rfl 38 (.tmp 8) rfl (w.heap.size + 1) ?lx 38 (#[.int .i64 0, .int .i64 0, .int .i64 0, .int .i64 0, .int .i64 0, .int .i64 0, .int .i64 0, .int .i64 0, .int .i64 0, .int .i64 0, .int .i64 0, .int .i64 0, .int .i64 0, .int .i64 0, .int .i64 0]) (0, 0) _ ?lg Tryz.underlying38 ?ld ?li ?_); (case lx => rfl); (case lg => exact h8); (case ld => rfl); (case li => kernel_rfl))
   | ((with_reducible refine wpList_store_row (o := ⟨none, _, _, _, _, _⟩) rfl 38 (.tmp 6) (.tmp 76) rfl (w.heap.size) (#[.int .i64 0, .int .i64 0, .int .i64 0, .int .i64 0, .int .i64 0, .int .i64 0, .int .i64 0, .int .i64 0, .int .i64 0, .int .i64 0, .int .i64 0, .int .i64 0, .int .i64 0, .int .i64 0, .int .i64 0]) ?sx ?sy 38 ?old ?sg ?si ?so ?s1 ?_); (case sx => rfl); (case sy => rfl); (case old => exact #[.int .i64 0, .int .i64 0, .int .i64 0, .int .i64 0, .int .i64 0, .int .i64 0, .int .i64 0, .int .i64 0, .int .i64 0, .int .i64 0, .int .i64 0, .int .i64 0, .int .i64 0, .int .i64 0, .int .i64 0]); (case sg => exact h6); (case si => kernel_rfl); (case so => rfl); (case s1 => kernel_rfl)))
  exact dask_ret rfl rfl rfl (setRow_heap _ _ _ _ _ _ h6) H1.out.setRow2.drop.drop.drop
set_option maxRecDepth 100000 in
set_option maxHeartbeats 4000000 in
theorem dask_noway (h : OwnD w0 K c core n s bx w) (line kind : Int) {gx : Mh.Ms} {pl : Int} (hl : 0 ≤ line ∧ line < c.li) (hkd : (kind != 1) = false ∨ (kind != 1) = true ∧ (kind != 2) = false) (hg : Mh.getP s.F line = (gx, false)) (hp : Wb.oi (Wb.fnd s.B line) = pl) (hc : canB (look c s line) kind = false) (hpl : ¬ 0 ≤ pl) (hfl : ¬ c.ms ≤ (s.F.length : Int)) (hth : there c s line = false) (hfr : Ar.oi (Ar.fre c s.A line) < 0) :
  Calls Tryz.prog 36 #[ptr K.k, .int .i64 line, .int .i64 kind] w (RetA m0 5 (OwnD w0 K c core n s bx)) := by
 have H0 := Lib.hid (h.add2 (.cells #[.int .i64 0, .int .i64 0, .int .i64 0, .int .i64 0, .int .i64 0, .int .i64 0, .int .i64 0, .int .i64 0, .int .i64 0, .int .i64 0, .int .i64 0, .int .i64 0, .int .i64 0, .int .i64 0, .int .i64 0] 38) (.cells #[.int .i64 0, .int .i64 0, .int .i64 0, .int .i64 0, .int .i64 0, .int .i64 0, .int .i64 0, .int .i64 0, .int .i64 0, .int .i64 0, .int .i64 0, .int .i64 0, .int .i64 0, .int .i64 0, .int .i64 0] 38))
 have HG := Lib.hid (H0.out.dget line)
 have HP := Lib.hid (fun w1 bx (h : OwnD w0 K c core n s bx w1) => h.dplace line)
 have HC := Lib.hid (fun w1 bx (h : OwnD w0 K c core n s bx w1) => h.dcan line kind)
 rw [hg] at HG
 rw [hp] at HP
 rw [hc] at HC
 have g0 : ¬ line < 0 := by omega
 have g1 : ¬ c.li ≤ line := by omega
 have hk := H0.out.kc
 clear h hg hp hc
 have HFd := Lib.hid (fun w1 bx (h : OwnD w0 K c core n s bx w1) => h.dfind line)
 have HFr := Lib.hid (fun w1 bx (h : OwnD w0 K c core n s bx w1) => h.dfree line)
 rw [show there c s line = false from hth] at HFd
 generalize look c s line = y at *
 generalize (Ar.fnd c s.A line).2.1 = yi at *
 have gfl : ¬ c.ms ≤ (s.F.length : Int) := hfl
 clear hth hfl
 rcases hkd with k1 | ⟨k1, k2⟩
 all_goals
  go_enter Tryz.func36, Tryz.ntmps36
  go_wp2_with fail
  refine HG.out.mono ?_
  rintro e w1 ⟨rfl, hb1⟩
  have H1 := Lib.hid ((H0.out.step hb1).add (.cells (Mh.mcells gx) 75))
  have hk1 := H1.out.kc
  clear hb1 hk HG
  go_wp2_with fail
  refine (HP.out _ _ H1.out).mono ?_
  rintro e w2 ⟨rfl, rfl⟩
  go_wp2_with fail
  refine (HC.out _ _ H1.out).mono ?_
  rintro e w2 ⟨rfl, hb2⟩
  replace H1 := Lib.hid (H1.out.step hb2)
  clear hb2 hk1
  have hk1 := H1.out.kc
  obtain ⟨fp, fc, hf⟩ := H1.out.fcell
  go_wp2_with fail
  go_quiet (fail)
  generalize hw3 : World.drewN w2 _ = w3
  replace H1 : Hid (OwnD w0 K c core n s _ w3) := Lib.hid (by rw [← hw3]; exact H1.out.drewN _)
  clear hk1 hf hw3
  have hk1 := H1.out.kc
  go_wp2_with fail
  refine (HFd.out _ _ H1.out).mono ?_
  rintro e w4 ⟨rfl, hb4⟩
  have H4 := Lib.hid ((H1.out.step hb4).add (.cells (Ar.ycells y) 69))
  have hk4 := H4.out.kc
  clear hb4 hk1 H1
  go_wp2_with fail
  refine (HFr.out _ _ H4.out).mono ?_
  rintro e w5 ⟨rfl, hb5⟩
  have H5 := Lib.hid (H4.out.step hb5)
  have hk5 := H5.out.kc
  clear hb5 hk4 H4
  have h6 := H5.out.box mz3
  have h8 := H5.out.box mz2
  go_wp2_with (first
   | ((with_reducible refine wpList_load_row (o := ⟨some 97, _, _, _, _, _⟩) rfl 38 (.tmp 8) rfl (w.heap.size + 1) ?lx 38 (#[.int .i64 0, .int .i64 0, .int .i64 0, .int .i64 0, .int .i64 0, .int .i64 0, .int .i64 0, .int .i64 0, .int .i64 0, .int .i64 0, .int .i64 0, .int .i64 0, .int .i64 0, .int .i64 0, .int .i64 0]) (0, 0) _ ?lg Tryz.underlying38 ?ld ?li ?_); (case lx => rfl); (case lg => exact h8); (case ld => rfl); (case li => kernel_rfl))
   | ((with_reducible refine wpList_store_row (o := ⟨none, _, _, _, _, _⟩) rfl 38 (.tmp 6) (.tmp 97) rfl (w.heap.size) (#[.int .i64 0, .int .i64 0, .int .i64 0, .int .i64 0, .int .i64 0, .int .i64 0, .int .i64 0, .int .i64 0, .int .i64 0, .int .i64 0, .int .i64 0, .int .i64 0, .int .i64 0, .int .i64 0, .int .i64 0]) ?sx ?sy 38 ?old ?sg ?si ?so ?s1 ?_); (case sx => rfl); (case sy => rfl); (case old => exact #[.int .i64 0, .int .i64 0, .int .i64 0, .int .i64 0, .int .i64 0, .int .i64 0, .int .i64 0, .int .i64 0, .int .i64 0, .int .i64 0, .int .i64 0, .int .i64 0, .int .i64 0, .int .i64 0, .int .i64 0]); (case sg => exact h6); (case si => kernel_rfl); (case so => rfl); (case s1 => kernel_rfl)))
  exact dask_ret rfl rfl rfl (setRow_heap _ _ _ _ _ _ h6) H5.out.setRow3.drop.drop.drop.drop

end Go.Proofs.YtlfhkjjjocmpbaaGreatDoor.Cc
