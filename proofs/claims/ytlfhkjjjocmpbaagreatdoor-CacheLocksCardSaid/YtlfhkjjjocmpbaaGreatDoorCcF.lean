/-
  What Ask and Finish do.
-/
import Derived.Test.YtlfhkjjjocmpbaaGreatDoorCcE
namespace Go.Proofs.YtlfhkjjjocmpbaaGreatDoor.Cc
open Go Go.RowKit

variable {w0 w w' : World} {bx : Bx} {K : Kb} {c : Cfg} {core n : Int} {s : St}
theorem Own.swap {ty : Tys} {p q : Nat × Obj} (h : Own ty w0 K c core n s (p :: q :: bx) w) : Own ty w0 K c core n s (q :: p :: bx) w := h.perm (List.Perm.swap _ _ _)
/-- A message beside an error's number; beside a bool. -/
def RetA (m : Msg) (er : Int) (P : World → Prop) (e : Ending) (w' : World) : Prop := e = .returned (.tuple #[mv m, .int .i64 er]) ∧ P w'
def RetB (m : Msg) (q : Bool) (P : World → Prop) (e : Ending) (w' : World) : Prop := e = .returned (.tuple #[mv m, .bool q]) ∧ P w'
theorem ask_ret {wr : World} {m : Msg} {er : Int} {P : World → Prop} {a : Act} {g : Nat} (hp : a.tmps.getD 6 undef = .pointer (some ⟨g, 0, none⟩)) (hn : a.tmps.getD 7 undef = .int .i64 er) (hd : a.defers = []) (hg : wr.heap[g]? = some (.cells (mcells m) 38 (0, 0))) (hb : P wr) :
    bodyPost Tryz.prog Tryz.f24 (RetA m er P) Exit.ret a wr :=
  bodyPost_ret (v := .tuple #[mv m, a.tmps.getD 7 undef]) (Ar.results_cell_two Tryz.results24 _ _ g 38 _ (0, 0) _ hp hg Tryz.underlying38 rfl (by kernel_rfl)) hd ⟨by rw [hn], hb⟩
theorem fin_ret {wr : World} {m : Msg} {q : Bool} {P : World → Prop} {a : Act} {g : Nat} (hp : a.tmps.getD 2 undef = .pointer (some ⟨g, 0, none⟩)) (hn : a.tmps.getD 3 undef = .bool q) (hd : a.defers = []) (hg : wr.heap[g]? = some (.cells (mcells m) 38 (0, 0))) (hb : P wr) :
    bodyPost Tryz.prog Tryz.f26 (RetB m q P) Exit.ret a wr :=
  bodyPost_ret (v := .tuple #[mv m, a.tmps.getD 3 undef]) (Ar.results_cell_two Tryz.results26 _ _ g 38 _ (0, 0) _ hp hg Tryz.underlying38 rfl (by kernel_rfl)) hd ⟨by rw [hn], hb⟩

set_option maxHeartbeats 1000000 in
theorem ask_no (h : OwnP w0 K c core n s bx w) (line kind : Int) (hr : (refP c s line kind != 0) = true) :
    Calls Tryz.prog 24 #[ptr K.k, .int .i64 line, .int .i64 kind] w (RetA m0 (refP c s line kind) (OwnP w0 K c core n s bx)) := by
  have H0 := Lib.hid (h.add (.cells #[.int .i64 0, .int .i64 0, .int .i64 0, .int .i64 0, .int .i64 0, .int .i64 0, .int .i64 0, .int .i64 0, .int .i64 0, .int .i64 0, .int .i64 0, .int .i64 0, .int .i64 0, .int .i64 0, .int .i64 0] 38))
  have HF := Lib.hid (H0.out.refusal line kind)
  clear h
  generalize refP c s line kind = r at *
  go_enter Tryz.func24, Tryz.ntmps24
  go_wp2_with fail
  refine HF.out.mono ?_
  rintro e w1 ⟨rfl, hb1⟩
  have H1 := Lib.hid (H0.out.step hb1)
  have h6 := H1.out.box (List.mem_cons_self ..)
  go_wp2_with ((with_reducible refine wpList_store_row (o := ⟨none, _, _, _, _, _⟩) rfl 38 (.tmp 6) (.tmp 17) rfl (w.heap.size) (mcells m0) ?sx ?sy 38 ?old ?sg ?si ?so ?s1 ?_); (case sx => rfl); (case sy => rfl); (case old => exact #[.int .i64 0, .int .i64 0, .int .i64 0, .int .i64 0, .int .i64 0, .int .i64 0, .int .i64 0, .int .i64 0, .int .i64 0, .int .i64 0, .int .i64 0, .int .i64 0, .int .i64 0, .int .i64 0, .int .i64 0]); (case sg => exact h6); (case si => kernel_rfl); (case so => rfl); (case s1 => kernel_rfl))
  exact ask_ret rfl rfl rfl (setRow_heap _ _ _ _ _ _ h6) H1.out.setRow.drop

set_option maxHeartbeats 2000000 in
theorem ask_there (h : OwnP w0 K c core n s bx w) (line kind : Int) (hr : refP c s line kind = 0) (hq : there c s line = true) :
    Calls Tryz.prog 24 #[ptr K.k, .int .i64 line, .int .i64 kind] w (RetA (toHomeP c core kind line) 0 (OwnP w0 K c core (n + 1) ⟨(Ar.lockP c s.A line true).2, (Mh.openP c.ms s.F line kind).2, s.B⟩ bx)) := by
  have H0 := Lib.hid (h.add (.cells #[.int .i64 0, .int .i64 0, .int .i64 0, .int .i64 0, .int .i64 0, .int .i64 0, .int .i64 0, .int .i64 0, .int .i64 0, .int .i64 0, .int .i64 0, .int .i64 0, .int .i64 0, .int .i64 0, .int .i64 0] 38))
  have HF := Lib.hid (H0.out.refusal line kind)
  rw [hr] at HF
  have HQ := Lib.hid hq
  clear h hr hq
  go_enter Tryz.func24, Tryz.ntmps24
  go_wp2_with fail
  refine HF.out.mono ?_
  rintro e w1 ⟨rfl, hb1⟩
  have H1 := Lib.hid (H0.out.step hb1)
  have hk1 := H1.out.kc
  clear hb1 HF H0
  go_wp2_with fail
  refine (H1.out.open line kind).mono ?_
  rintro e w2 ⟨⟨i2, rfl⟩, ho⟩
  have H2 := Lib.hid ho
  clear ho hk1 H1
  go_wp2_with fail
  refine (H2.out.look line).mono ?_
  rintro e w3 ⟨rfl, hb3⟩
  rw [show there c { s with F := (Mh.openP c.ms s.F line kind).2 } line = true from HQ.out]
  generalize look c { s with F := (Mh.openP c.ms s.F line kind).2 } line = y
  have H3 := Lib.hid ((H2.out.step hb3).add (.cells (Ar.ycells y) 66))
  have hk3 := H3.out.kc
  clear hb3 H2
  go_wp2_with fail
  refine (H3.out.lock line true).mono ?_
  rintro e w4 ⟨⟨i4, rfl⟩, ho⟩
  have H4 := Lib.hid ho
  clear ho hk3 H3
  go_wp2_with fail
  refine H4.out.toHome.mono ?_
  rintro e w5 ⟨rfl, hb5⟩
  have H5 := Lib.hid (H4.out.step hb5).swap
  have h6 := H5.out.box (List.mem_cons_self ..)
  go_wp2_with ((with_reducible refine wpList_store_row (o := ⟨none, _, _, _, _, _⟩) rfl 38 (.tmp 6) (.tmp 55) rfl (w.heap.size) (mcells (toHomeP c core kind line)) ?sx ?sy 38 ?old ?sg ?si ?so ?s1 ?_); (case sx => rfl); (case sy => rfl); (case old => exact #[.int .i64 0, .int .i64 0, .int .i64 0, .int .i64 0, .int .i64 0, .int .i64 0, .int .i64 0, .int .i64 0, .int .i64 0, .int .i64 0, .int .i64 0, .int .i64 0, .int .i64 0, .int .i64 0, .int .i64 0]); (case sg => exact h6); (case si => kernel_rfl); (case so => rfl); (case s1 => kernel_rfl))
  exact ask_ret rfl rfl rfl (setRow_heap _ _ _ _ _ _ h6) H5.out.setRow.drop.drop

set_option maxHeartbeats 2000000 in
theorem ask_lay (h : OwnP w0 K c core n s bx w) (line kind : Int) (hr : refP c s line kind = 0) (hq : there c s line = false) :
    Calls Tryz.prog 24 #[ptr K.k, .int .i64 line, .int .i64 kind] w (RetA (toHomeP c core kind line) 0 (OwnP w0 K c core (n + 1) ⟨(Ar.lockP c (Ar.layP c s.A line (Ar.oi (Ar.fre c s.A line))).2 line true).2, (Mh.openP c.ms s.F line kind).2, s.B⟩ bx)) := by
  have H0 := Lib.hid (h.add (.cells #[.int .i64 0, .int .i64 0, .int .i64 0, .int .i64 0, .int .i64 0, .int .i64 0, .int .i64 0, .int .i64 0, .int .i64 0, .int .i64 0, .int .i64 0, .int .i64 0, .int .i64 0, .int .i64 0, .int .i64 0] 38))
  have HF := Lib.hid (H0.out.refusal line kind)
  rw [hr] at HF
  have HQ := Lib.hid hq
  clear h hr hq
  go_enter Tryz.func24, Tryz.ntmps24
  go_wp2_with fail
  refine HF.out.mono ?_
  rintro e w1 ⟨rfl, hb1⟩
  have H1 := Lib.hid (H0.out.step hb1)
  have hk1 := H1.out.kc
  clear hb1 HF H0
  go_wp2_with fail
  refine (H1.out.open line kind).mono ?_
  rintro e w2 ⟨⟨i2, rfl⟩, ho⟩
  have H2 := Lib.hid ho
  clear ho hk1 H1
  go_wp2_with fail
  refine (H2.out.look line).mono ?_
  rintro e w3 ⟨rfl, hb3⟩
  rw [show there c { s with F := (Mh.openP c.ms s.F line kind).2 } line = false from HQ.out]
  generalize look c { s with F := (Mh.openP c.ms s.F line kind).2 } line = y
  have H3 := Lib.hid ((H2.out.step hb3).add (.cells (Ar.ycells y) 66))
  have hk3 := H3.out.kc
  clear hb3 H2
  go_wp2_with fail
  go_region_held3 (fun w' => ∀ o, w'.cell? ⟨K.k, o, none⟩ = (kcells c core K)[o]?)
    (first | exact H5.out.kc | exact H4.out.kc | exact hk3 | go_keep)
    (first
      | (go_at_call 59; refine ((by first | exact H4.out | exact H4.out.drew : OwnP w0 K c core (n + 1) { s with F := (Mh.openP c.ms s.F line kind).2 } _ _).lay line _).mono ?_; rintro e w5 ⟨⟨i5, rfl⟩, ho⟩; have H5 := Lib.hid ho; clear ho)
      | (go_at_call 60; refine ((by first | exact H3.out | exact H3.out.drew : OwnP w0 K c core (n + 1) { s with F := (Mh.openP c.ms s.F line kind).2 } _ _).free line).mono ?_; rintro e w4 ⟨rfl, hb4⟩; have H4 := (by first | exact Lib.hid (H3.out.step hb4) | exact Lib.hid (H3.out.drew.step hb4)); clear hb4))
  have hk5 := H5.out.kc
  go_wp2_with fail
  refine (H5.out.lock line true).mono ?_
  rintro e w6 ⟨⟨i6, rfl⟩, ho⟩
  have H6 := Lib.hid ho
  clear ho hk5 hk3
  go_wp2_with fail
  refine H6.out.toHome.mono ?_
  rintro e w7 ⟨rfl, hb7⟩
  have H7 := Lib.hid (H6.out.step hb7).swap
  have h6 := H7.out.box (List.mem_cons_self ..)
  go_wp2_with ((with_reducible refine wpList_store_row (o := ⟨none, _, _, _, _, _⟩) rfl 38 (.tmp 6) (.tmp 55) rfl (w.heap.size) (mcells (toHomeP c core kind line)) ?sx ?sy 38 ?old ?sg ?si ?so ?s1 ?_); (case sx => rfl); (case sy => rfl); (case old => exact #[.int .i64 0, .int .i64 0, .int .i64 0, .int .i64 0, .int .i64 0, .int .i64 0, .int .i64 0, .int .i64 0, .int .i64 0, .int .i64 0, .int .i64 0, .int .i64 0, .int .i64 0, .int .i64 0, .int .i64 0]); (case sg => exact h6); (case si => kernel_rfl); (case so => rfl); (case s1 => kernel_rfl))
  exact ask_ret rfl rfl rfl (setRow_heap _ _ _ _ _ _ h6) H7.out.setRow.drop.drop

/-- Ask. -/
theorem Own.ask (h : OwnP w0 K c core n s bx w) (line kind : Int) :
    Calls Tryz.prog 24 #[ptr K.k, .int .i64 line, .int .i64 kind] w (RetA (askP c core s line kind).1.1 (askP c core s line kind).1.2 (OwnP w0 K c core (n + 2) (askP c core s line kind).2 bx)) := by
  unfold askP
  by_cases hr : refP c s line kind = 0
  · rw [if_neg (by simpa using hr)]
    unfold layA
    rcases Bool.eq_false_or_eq_true (there c s line) with hq | hq
    · rw [if_pos hq]
      exact (ask_there h line kind hr hq).mono fun e w' ⟨he, ho⟩ => ⟨he, ho.more (by omega)⟩
    · rw [if_neg (by simp [hq])]
      exact (ask_lay h line kind hr hq).mono fun e w' ⟨he, ho⟩ => ⟨he, ho.more (by omega)⟩
  · rw [if_pos hr]
    exact (ask_no h line kind (by simpa using hr)).mono fun e w' ⟨he, ho⟩ => ⟨he, ho.more (by omega)⟩

theorem fin_no (h : OwnP w0 K c core n s bx w) (hr : (Mh.owingP s.F).2 = false) :
    Calls Tryz.prog 26 #[ptr K.k] w (RetB m0 false (OwnP w0 K c core n s bx)) := by
  have H0 := Lib.hid (h.add (.cells #[.int .i64 0, .int .i64 0, .int .i64 0, .int .i64 0, .int .i64 0, .int .i64 0, .int .i64 0, .int .i64 0, .int .i64 0, .int .i64 0, .int .i64 0, .int .i64 0, .int .i64 0, .int .i64 0, .int .i64 0] 38))
  have HF := Lib.hid H0.out.owing
  rw [hr] at HF
  have hk := H0.out.kc
  clear h hr
  generalize (Mh.owingP s.F).1 = line at *
  go_enter Tryz.func26, Tryz.ntmps26
  go_wp2_with fail
  refine HF.out.mono ?_
  rintro e w1 ⟨rfl, hb1⟩
  have H1 := Lib.hid (H0.out.step hb1)
  have h6 := H1.out.box (List.mem_cons_self ..)
  clear hk
  go_wp2_with ((with_reducible refine wpList_store_row (o := ⟨none, _, _, _, _, _⟩) rfl 38 (.tmp 2) (.tmp 16) rfl (w.heap.size) (mcells m0) ?sx ?sy 38 ?old ?sg ?si ?so ?s1 ?_); (case sx => rfl); (case sy => rfl); (case old => exact #[.int .i64 0, .int .i64 0, .int .i64 0, .int .i64 0, .int .i64 0, .int .i64 0, .int .i64 0, .int .i64 0, .int .i64 0, .int .i64 0, .int .i64 0, .int .i64 0, .int .i64 0, .int .i64 0, .int .i64 0]); (case sg => exact h6); (case si => kernel_rfl); (case so => rfl); (case s1 => kernel_rfl))
  exact fin_ret rfl rfl rfl (setRow_heap _ _ _ _ _ _ h6) H1.out.setRow.drop
set_option maxHeartbeats 1000000 in
theorem fin_yes (h : OwnP w0 K c core n s bx w) (hr : (Mh.owingP s.F).2 = true) :
    Calls Tryz.prog 26 #[ptr K.k] w (RetB (toHomeP c core 11 (Mh.owingP s.F).1) true (OwnP w0 K c core (n + 1) ⟨(Ar.lockP c s.A (Mh.owingP s.F).1 false).2, (Mh.closeP s.F (Mh.owingP s.F).1).2, s.B⟩ bx)) := by
  have H0 := Lib.hid (h.add (.cells #[.int .i64 0, .int .i64 0, .int .i64 0, .int .i64 0, .int .i64 0, .int .i64 0, .int .i64 0, .int .i64 0, .int .i64 0, .int .i64 0, .int .i64 0, .int .i64 0, .int .i64 0, .int .i64 0, .int .i64 0] 38))
  have HF := Lib.hid H0.out.owing
  rw [hr] at HF
  have hk := H0.out.kc
  clear h hr
  generalize (Mh.owingP s.F).1 = line at *
  go_enter Tryz.func26, Tryz.ntmps26
  go_wp2_with fail
  refine HF.out.mono ?_
  rintro e w1 ⟨rfl, hb1⟩
  have H1 := Lib.hid (H0.out.step hb1)
  have hk1 := H1.out.kc
  clear hb1 HF H0 hk
  go_wp2_with fail
  refine (H1.out.close line).mono ?_
  rintro e w2 ⟨⟨i2, rfl⟩, ho⟩
  have H2 := Lib.hid ho
  have hk2 := H2.out.kc
  clear ho hk1 H1
  go_wp2_with fail
  refine (H2.out.lock line false).mono ?_
  rintro e w4 ⟨⟨i4, rfl⟩, ho⟩
  have H4 := Lib.hid ho
  clear ho hk2 H2
  go_wp2_with fail
  refine H4.out.toHome.mono ?_
  rintro e w5 ⟨rfl, hb5⟩
  have H5 := Lib.hid (H4.out.step hb5)
  have h6 := H5.out.box (List.mem_cons_self ..)
  go_wp2_with ((with_reducible refine wpList_store_row (o := ⟨none, _, _, _, _, _⟩) rfl 38 (.tmp 2) (.tmp 31) rfl (w.heap.size) (mcells (toHomeP c core 11 line)) ?sx ?sy 38 ?old ?sg ?si ?so ?s1 ?_); (case sx => rfl); (case sy => rfl); (case old => exact #[.int .i64 0, .int .i64 0, .int .i64 0, .int .i64 0, .int .i64 0, .int .i64 0, .int .i64 0, .int .i64 0, .int .i64 0, .int .i64 0, .int .i64 0, .int .i64 0, .int .i64 0, .int .i64 0, .int .i64 0]); (case sg => exact h6); (case si => kernel_rfl); (case so => rfl); (case s1 => kernel_rfl))
  exact fin_ret rfl rfl rfl (setRow_heap _ _ _ _ _ _ h6) H5.out.setRow.drop
/-- Finish. -/
theorem Own.finish (h : OwnP w0 K c core n s bx w) :
    Calls Tryz.prog 26 #[ptr K.k] w (RetB (finishP c core s).1.1 (finishP c core s).1.2 (OwnP w0 K c core (n + 2) (finishP c core s).2 bx)) := by
  unfold finishP
  rcases Bool.eq_false_or_eq_true (Mh.owingP s.F).2 with hr | hr
  · rw [if_pos hr]
    exact (fin_yes h hr).mono fun e w' ⟨he, ho⟩ => ⟨he, ho.more (by omega)⟩
  · rw [if_neg (by simp [hr])]
    exact (fin_no h hr).mono fun e w' ⟨he, ho⟩ => ⟨he, ho.more (by omega)⟩

end Go.Proofs.YtlfhkjjjocmpbaaGreatDoor.Cc
