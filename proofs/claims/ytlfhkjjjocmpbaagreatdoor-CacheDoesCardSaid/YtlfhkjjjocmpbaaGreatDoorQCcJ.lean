import Derived.Test.YtlfhkjjjocmpbaaGreatDoorSx
import Derived.Test.YtlfhkjjjocmpbaaGreatDoorQGcE

namespace Go.Proofs.YtlfhkjjjocmpbaaGreatDoor.Cc
open Go Go.RowKit
open List (setIfInBounds_toArray set_cons_zero set_cons_succ)

variable {w0 w w' : World} {bx : Bx} {K : Kb} {c : Cfg} {core n : Int} {s : St}
theorem Own.add2 {ty : Tys} (h : Own ty w0 K c core n s bx w) (o1 o2 : Obj) : Own ty w0 K c core n s ((w.heap.size + 1, o2) :: (w.heap.size, o1) :: bx) ((w.alloc o1).alloc o2) := by
 have := (h.add o1).add o2
 rwa [show (w.alloc o1).heap.size = w.heap.size + 1 by simp] at this

def RetD (d : Wd) (er : Int) (P : World → Prop) (e : Ending) (w' : World) : Prop := e = .returned (.tuple #[.agg (dcells d), .int .i64 er]) ∧ P w'
theorem leave_ret {wr : World} {d : Wd} {er : Int} {P : World → Prop} {a : Act} {g : Nat} (hp : a.tmps.getD 8 undef = .pointer (some ⟨g, 0, none⟩)) (hn : a.tmps.getD 9 undef = .int .i64 er) (hd : a.defers = []) (hg : wr.heap[g]? = some (.cells (dcells d) 36 (0, 0))) (hb : P wr) :
  bodyPost Tryz.prog Tryz.f152 (RetD d er P) Exit.ret a wr :=
 bodyPost_ret (v := .tuple #[.agg (dcells d), a.tmps.getD 9 undef]) (Ar.results_cell_two Tryz.results152 _ _ g 36 _ (0, 0) _ hp hg Tryz.underlying36 rfl (by kernel_rfl)) hd ⟨by rw [hn], hb⟩
theorem tell_ret {wr : World} {r : Rp} {P : World → Prop} {a : Act} {g : Nat} (hp : a.tmps.getD 10 undef = .pointer (some ⟨g, 0, none⟩)) (hq : a.tmps.getD 11 undef = .bool r.2.1) (hn : a.tmps.getD 12 undef = .int .i64 r.2.2) (hd : a.defers = []) (hg : wr.heap[g]? = some (.cells (mcells r.1) 38 (0, 0))) (hb : P wr) :
  bodyPost Tryz.prog Tryz.f136 (RetT r P) Exit.ret a wr :=
 bodyPost_ret (v := .tuple #[mv r.1, a.tmps.getD 11 undef, a.tmps.getD 12 undef]) (Ar.results_cell_three Tryz.results136 _ _ g 38 _ (0, 0) _ hp hg Tryz.underlying38 rfl (by kernel_rfl)) hd ⟨by rw [hq, hn], hb⟩
theorem share_ret {wr : World} {r : Rp} {P : World → Prop} {a : Act} {g : Nat} (hp : a.tmps.getD 4 undef = .pointer (some ⟨g, 0, none⟩)) (hq : a.tmps.getD 5 undef = .bool r.2.1) (hn : a.tmps.getD 6 undef = .int .i64 r.2.2) (hd : a.defers = []) (hg : wr.heap[g]? = some (.cells (mcells r.1) 38 (0, 0))) (hb : P wr) :
  bodyPost Tryz.prog Tryz.f105 (RetT r P) Exit.ret a wr :=
 bodyPost_ret (v := .tuple #[mv r.1, a.tmps.getD 5 undef, a.tmps.getD 6 undef]) (Ar.results_cell_three Tryz.results105 _ _ g 38 _ (0, 0) _ hp hg Tryz.underlying38 rfl (by kernel_rfl)) hd ⟨by rw [hq, hn], hb⟩
theorem give_ret {wr : World} {r : Rp} {P : World → Prop} {a : Act} {g : Nat} (hp : a.tmps.getD 4 undef = .pointer (some ⟨g, 0, none⟩)) (hq : a.tmps.getD 5 undef = .bool r.2.1) (hn : a.tmps.getD 6 undef = .int .i64 r.2.2) (hd : a.defers = []) (hg : wr.heap[g]? = some (.cells (mcells r.1) 38 (0, 0))) (hb : P wr) :
  bodyPost Tryz.prog Tryz.f106 (RetT r P) Exit.ret a wr :=
 bodyPost_ret (v := .tuple #[mv r.1, a.tmps.getD 5 undef, a.tmps.getD 6 undef]) (Ar.results_cell_three Tryz.results106 _ _ g 38 _ (0, 0) _ hp hg Tryz.underlying38 rfl (by kernel_rfl)) hd ⟨by rw [hq, hn], hb⟩

abbrev shareV (K : Kb) : Value := .func (.func 137) #[ptr K.b] #[]
abbrev giveV (K : Kb) : Value := .func (.func 138) #[ptr K.b] #[]

set_option maxHeartbeats 1000000 in
theorem leave_share (h : OwnP w0 K c core n s bx w) (line state : Int) :
  Calls Tryz.prog 152 #[ptr K.k, .int .i64 line, .int .i64 state, shareV K] w (RetD (leaveP c s id line state).1.1 (leaveP c s id line state).1.2 (OwnP w0 K c core n (leaveP c s id line state).2 bx)) := by
 unfold leaveP
 have H0 := Lib.hid (h.add (.cells #[.int .i64 0, .int .i64 0, .int .i64 0, .int .i64 0, .int .i64 0, .int .i64 0, .int .i64 0, .int .i64 0] 36))
 have HL := Lib.hid (H0.out.look line)
 clear h
 generalize look c s line = y at *
 generalize there c s line = q at *
 have HO := Lib.hid (owned_any y)
 rcases Bool.eq_false_or_eq_true (ownsB y) with hy | hy
 ·rw [if_pos hy]
  rw [hy] at HO
  clear hy
  go_enter Tryz.func152, Tryz.ntmps152
  go_wp2_with fail
  refine HL.out.mono ?_
  rintro e w1 ⟨rfl, hb1⟩
  have H1 := Lib.hid ((H0.out.step hb1).add (.cells (Ar.ycells y) 66))
  clear hb1
  go_wp2_with fail
  refine (HO.out _).mono ?_
  rintro e w2 ⟨rfl, hb2⟩
  have H2 := Lib.hid (H1.out.step hb2)
  clear hb2 H1
  have hk2 := H2.out.kc
  have hy2 := H2.out.cells mz0
  go_wp2_with fail
  go_region_held3 (fun w' => (∀ o, w'.cell? ⟨K.k, o, none⟩ = (kcells c core K)[o]?) ∧ (∀ o, w'.cell? ⟨w1.heap.size, o, none⟩ = (Ar.ycells y)[o]?))
   (first | exact ⟨H3.out.kc, H3.out.cells mz0⟩ | exact ⟨hk2, hy2⟩ | go_keep)
   (first
    | (go_at_call 50; refine ((by first | exact H2.out | exact H2.out.drew : OwnP w0 K c core n s _ _).set line state y.wd).mono ?_; rintro e w3 ⟨⟨i3, rfl⟩, ho⟩; have H3 := Lib.hid ho; clear ho))
  clear hk2 hy2
  have hy3 := H3.out.cells mz0
  have H4 := Lib.hid H3.out.swap
  have h8 := H4.out.box mz0
  go_wp2_with ((with_reducible refine wpList_store_row (o := ⟨none, _, _, _, _, _⟩) rfl 36 (.tmp 8) (.tmp 36) rfl (w.heap.size) (dcells y.wd) ?sx ?sy 36 ?old ?sg ?si ?so ?s1 ?_); (case sx => rfl); (case sy => rfl); (case old => exact #[.int .i64 0, .int .i64 0, .int .i64 0, .int .i64 0, .int .i64 0, .int .i64 0, .int .i64 0, .int .i64 0]); (case sg => exact h8); (case si => kernel_rfl); (case so => rfl); (case s1 => kernel_rfl))
  exact leave_ret rfl rfl rfl (setRow_heap _ _ _ _ _ _ h8) H4.out.setRow.drop.drop
 ·rw [if_neg (by simp [hy])]
  rw [hy] at HO
  clear hy
  go_enter Tryz.func152, Tryz.ntmps152
  go_wp2_with fail
  refine HL.out.mono ?_
  rintro e w1 ⟨rfl, hb1⟩
  have H1 := Lib.hid ((H0.out.step hb1).add (.cells (Ar.ycells y) 66))
  clear hb1
  go_wp2_with fail
  refine (HO.out _).mono ?_
  rintro e w2 ⟨rfl, hb2⟩
  have H2 := Lib.hid (H1.out.step hb2).swap
  clear hb2 H1
  go_wp2_with fail
  refine (H2.out.share line).mono ?_
  rintro e w3 ⟨rfl, ho⟩
  have H3 := Lib.hid ho
  have h8 := H3.out.box mz0
  clear ho
  go_wp2_with ((with_reducible refine wpList_store_row (o := ⟨none, _, _, _, _, _⟩) rfl 36 (.tmp 8) (.tmp 24) rfl (w.heap.size) (dcells (Wb.ansP id s.B line).1.1) ?sx ?sy 36 ?old ?sg ?si ?so ?s1 ?_); (case sx => rfl); (case sy => rfl); (case old => exact #[.int .i64 0, .int .i64 0, .int .i64 0, .int .i64 0, .int .i64 0, .int .i64 0, .int .i64 0, .int .i64 0]); (case sg => exact h8); (case si => kernel_rfl); (case so => rfl); (case s1 => kernel_rfl))
  exact leave_ret rfl rfl rfl (setRow_heap _ _ _ _ _ _ h8) H3.out.setRow.drop.drop
set_option maxHeartbeats 1000000 in
theorem leave_give (h : OwnP w0 K c core n s bx w) (line state : Int) :
  Calls Tryz.prog 152 #[ptr K.k, .int .i64 line, .int .i64 state, giveV K] w (RetD (leaveP c s Wb.gone line state).1.1 (leaveP c s Wb.gone line state).1.2 (OwnP w0 K c core n (leaveP c s Wb.gone line state).2 bx)) := by
 unfold leaveP
 have H0 := Lib.hid (h.add (.cells #[.int .i64 0, .int .i64 0, .int .i64 0, .int .i64 0, .int .i64 0, .int .i64 0, .int .i64 0, .int .i64 0] 36))
 have HL := Lib.hid (H0.out.look line)
 clear h
 generalize look c s line = y at *
 generalize there c s line = q at *
 have HO := Lib.hid (owned_any y)
 rcases Bool.eq_false_or_eq_true (ownsB y) with hy | hy
 ·rw [if_pos hy]
  rw [hy] at HO
  clear hy
  go_enter Tryz.func152, Tryz.ntmps152
  go_wp2_with fail
  refine HL.out.mono ?_
  rintro e w1 ⟨rfl, hb1⟩
  have H1 := Lib.hid ((H0.out.step hb1).add (.cells (Ar.ycells y) 66))
  clear hb1
  go_wp2_with fail
  refine (HO.out _).mono ?_
  rintro e w2 ⟨rfl, hb2⟩
  have H2 := Lib.hid (H1.out.step hb2)
  clear hb2 H1
  have hk2 := H2.out.kc
  have hy2 := H2.out.cells mz0
  go_wp2_with fail
  go_region_held3 (fun w' => (∀ o, w'.cell? ⟨K.k, o, none⟩ = (kcells c core K)[o]?) ∧ (∀ o, w'.cell? ⟨w1.heap.size, o, none⟩ = (Ar.ycells y)[o]?))
   (first | exact ⟨H3.out.kc, H3.out.cells mz0⟩ | exact ⟨hk2, hy2⟩ | go_keep)
   (first
    | (go_at_call 50; refine ((by first | exact H2.out | exact H2.out.drew : OwnP w0 K c core n s _ _).set line state y.wd).mono ?_; rintro e w3 ⟨⟨i3, rfl⟩, ho⟩; have H3 := Lib.hid ho; clear ho))
  clear hk2 hy2
  have hy3 := H3.out.cells mz0
  have H4 := Lib.hid H3.out.swap
  have h8 := H4.out.box mz0
  go_wp2_with ((with_reducible refine wpList_store_row (o := ⟨none, _, _, _, _, _⟩) rfl 36 (.tmp 8) (.tmp 36) rfl (w.heap.size) (dcells y.wd) ?sx ?sy 36 ?old ?sg ?si ?so ?s1 ?_); (case sx => rfl); (case sy => rfl); (case old => exact #[.int .i64 0, .int .i64 0, .int .i64 0, .int .i64 0, .int .i64 0, .int .i64 0, .int .i64 0, .int .i64 0]); (case sg => exact h8); (case si => kernel_rfl); (case so => rfl); (case s1 => kernel_rfl))
  exact leave_ret rfl rfl rfl (setRow_heap _ _ _ _ _ _ h8) H4.out.setRow.drop.drop
 ·rw [if_neg (by simp [hy])]
  rw [hy] at HO
  clear hy
  go_enter Tryz.func152, Tryz.ntmps152
  go_wp2_with fail
  refine HL.out.mono ?_
  rintro e w1 ⟨rfl, hb1⟩
  have H1 := Lib.hid ((H0.out.step hb1).add (.cells (Ar.ycells y) 66))
  clear hb1
  go_wp2_with fail
  refine (HO.out _).mono ?_
  rintro e w2 ⟨rfl, hb2⟩
  have H2 := Lib.hid (H1.out.step hb2).swap
  clear hb2 H1
  go_wp2_with fail
  refine (H2.out.give line).mono ?_
  rintro e w3 ⟨rfl, ho⟩
  have H3 := Lib.hid ho
  have h8 := H3.out.box mz0
  clear ho
  go_wp2_with ((with_reducible refine wpList_store_row (o := ⟨none, _, _, _, _, _⟩) rfl 36 (.tmp 8) (.tmp 24) rfl (w.heap.size) (dcells (Wb.ansP Wb.gone s.B line).1.1) ?sx ?sy 36 ?old ?sg ?si ?so ?s1 ?_); (case sx => rfl); (case sy => rfl); (case old => exact #[.int .i64 0, .int .i64 0, .int .i64 0, .int .i64 0, .int .i64 0, .int .i64 0, .int .i64 0, .int .i64 0]); (case sg => exact h8); (case si => kernel_rfl); (case so => rfl); (case s1 => kernel_rfl))
  exact leave_ret rfl rfl rfl (setRow_heap _ _ _ _ _ _ h8) H3.out.setRow.drop.drop
set_option maxRecDepth 100000 in
set_option maxHeartbeats 2000000 in
theorem tell_share (h : OwnP w0 K c core n s bx w) (m : Msg) (left own : Int) :
  Calls Tryz.prog 136 #[ptr K.k, mv m, .int .i64 left, .int .i64 own, shareV K] w (RetT (tellP c core s id m left own).1 (OwnP w0 K c core n (tellP c core s id m left own).2 bx)) := by
 unfold tellP
 have H0 := Lib.hid (h.add2 (.cells (mcells m) 38) (.cells #[.int .i64 0, .int .i64 0, .int .i64 0, .int .i64 0, .int .i64 0, .int .i64 0, .int .i64 0, .int .i64 0, .int .i64 0, .int .i64 0, .int .i64 0, .int .i64 0, .int .i64 0, .int .i64 0, .int .i64 0] 38))
 have HL := Lib.hid (leave_share H0.out m.ln left)
 have hx := H0.out.cells mz1
 clear h
 generalize leaveP c s id m.ln left = r at *
 obtain ⟨⟨d, er⟩, s2⟩ := r
 show Calls _ _ _ _ (RetT (if er ≠ 0 then ((m0, false, 7), s2) else ((msg 7 m.ln core m.wh 1 m.ac own d, true, 0), s2)).1 (OwnP w0 K c core n (if er ≠ 0 then ((m0, false, 7), s2) else ((msg 7 m.ln core m.wh 1 m.ac own d, true, 0), s2)).2 bx))
 replace HL := Lib.hid (show Calls _ _ _ _ (RetD d er (OwnP w0 K c core n s2 _)) from HL.out)
 by_cases e1 : er = 0
 ·rw [if_neg (show ¬ er ≠ 0 from fun q => q e1)]
  subst e1
  go_enter Tryz.func136, Tryz.ntmps136
  go_wp2_with fail
  refine HL.out.mono ?_
  rintro e w1 ⟨rfl, ho⟩
  have H1 := Lib.hid (ho.add (.cells (dcells d) 36))
  clear ho hx
  go_wp2_with fail
  obtain ⟨w2, hw2⟩ : ∃ w2, w2 = w1.alloc (.cells (dcells d) 36) := ⟨_, rfl⟩
  rw [← hw2] at H1
  change Code.wp _ _ _ _ (w1.alloc (.cells (dcells d) 36))
  rw [← hw2]
  clear hw2
  refine wp_region_noPanic ?_
  refine wp_region_held_drew (S := (fun w' : World => (∀ o, w'.cell? ⟨K.k, o, none⟩ = (kcells c core K)[o]?) ∧ (∀ o, w'.cell? ⟨w.heap.size, o, none⟩ = (mcells m)[o]?) ∧ (∀ o, w'.cell? ⟨w1.heap.size, o, none⟩ = (dcells d)[o]?))) (by kernel_rfl) ⟨H1.out.kc, H1.out.cells mz2, H1.out.cells mz0⟩ (fun hh0 => ?_)
  replace H1 := Lib.hid H1.out.drew
  generalize World.drew w2 = w2 at *
  refine tk 14 0 ⟨some 31, _, _, _, _, _⟩ (.pointer (some ⟨w.heap.size, 1, none⟩)) rfl (by kernel_rfl) (by rfl) hh0 ?_ ?_
  ·intro w' _
   go_simp
  simp only [Act.put, setIfInBounds_toArray, set_cons_zero, set_cons_succ]
  refine tk 13 1 ⟨some 32, _, _, _, _, _⟩ (.int .i64 m.ln) rfl (by kernel_rfl) (by rfl) hh0 ?_ ?_
  ·rintro w' ⟨-, c0, -⟩
   go_simp
  simp only [Act.put, setIfInBounds_toArray, set_cons_zero, set_cons_succ]
  refine tk 12 2 ⟨some 33, _, _, _, _, _⟩ (ptr K.k) rfl (by kernel_rfl) (by rfl) hh0 ?_ ?_
  ·intro w' _
   go_simp
  simp only [Act.put, setIfInBounds_toArray, set_cons_zero, set_cons_succ]
  refine tk 11 3 ⟨some 34, _, _, _, _, _⟩ (ptr K.k) rfl (by kernel_rfl) (by rfl) hh0 ?_ ?_
  ·intro w' _
   go_simp
  simp only [Act.put, setIfInBounds_toArray, set_cons_zero, set_cons_succ]
  refine tk 10 4 ⟨some 35, _, _, _, _, _⟩ (.pointer (some ⟨K.k, 13, none⟩)) rfl (by kernel_rfl) (by rfl) hh0 ?_ ?_
  ·intro w' _
   go_simp
  simp only [Act.put, setIfInBounds_toArray, set_cons_zero, set_cons_succ]
  refine tk 9 5 ⟨some 36, _, _, _, _, _⟩ (.int .i64 core) rfl (by kernel_rfl) (by rfl) hh0 ?_ ?_
  ·rintro w' ⟨c0, -, -⟩
   go_simp
  simp only [Act.put, setIfInBounds_toArray, set_cons_zero, set_cons_succ]
  refine tk 8 6 ⟨some 37, _, _, _, _, _⟩ (.pointer (some ⟨w.heap.size, 4, none⟩)) rfl (by kernel_rfl) (by rfl) hh0 ?_ ?_
  ·intro w' _
   go_simp
  simp only [Act.put, setIfInBounds_toArray, set_cons_zero, set_cons_succ]
  refine tk 7 7 ⟨some 38, _, _, _, _, _⟩ (.int .i64 m.wh) rfl (by kernel_rfl) (by rfl) hh0 ?_ ?_
  ·rintro w' ⟨-, c0, -⟩
   go_simp
  simp only [Act.put, setIfInBounds_toArray, set_cons_zero, set_cons_succ]
  refine tk 6 8 ⟨some 39, _, _, _, _, _⟩ (.pointer (some ⟨w.heap.size, 5, none⟩)) rfl (by kernel_rfl) (by rfl) hh0 ?_ ?_
  ·intro w' _
   go_simp
  simp only [Act.put, setIfInBounds_toArray, set_cons_zero, set_cons_succ]
  refine tk 5 9 ⟨some 40, _, _, _, _, _⟩ (.int .i64 m.ac) rfl (by kernel_rfl) (by rfl) hh0 ?_ ?_
  ·rintro w' ⟨-, c0, -⟩
   go_simp
  simp only [Act.put, setIfInBounds_toArray, set_cons_zero, set_cons_succ]
  refine tk 4 10 ⟨some 41, _, _, _, _, _⟩ (.int .i64 own) rfl (by kernel_rfl) (by rfl) hh0 ?_ ?_
  ·intro w' _
   go_simp
  simp only [Act.put, setIfInBounds_toArray, set_cons_zero, set_cons_succ]
  refine tk 3 11 ⟨some 42, _, _, _, _, _⟩ (.agg (dcells d)) rfl (by kernel_rfl) (by rfl) hh0 ?_ ?_
  ·rintro w' ⟨-, -, c0⟩
   go_simp
  simp only [Act.put, setIfInBounds_toArray, set_cons_zero, set_cons_succ]
  refine tk 2 12 ⟨some 43, _, _, _, _, _⟩ (.agg (#[.int .i64 7, .int .i64 m.ln, .int .i64 core, .int .i64 m.wh, .int .i64 1, .int .i64 m.ac, .int .i64 own, .int .i64 d.w0, .int .i64 d.w1, .int .i64 d.w2, .int .i64 d.w3, .int .i64 d.w4, .int .i64 d.w5, .int .i64 d.w6, .int .i64 d.w7])) rfl (by kernel_rfl) (by rfl) hh0 ?_ ?_
  ·intro w' _
   go_simp
  simp only [Act.put, setIfInBounds_toArray, set_cons_zero, set_cons_succ]
  refine rd 1 13 ⟨some 15, _, _, _, _, _⟩ rfl (by kernel_rfl) (fun P hP => ?_)
  go_simp
  have H2 := Lib.hid (H1.out.add (.cells #[.int .i64 0, .int .i64 0, .int .i64 0, .int .i64 0, .int .i64 0, .int .i64 0, .int .i64 0, .int .i64 0, .int .i64 0, .int .i64 0, .int .i64 0, .int .i64 0, .int .i64 0, .int .i64 0, .int .i64 0] 38))
  show P _ _
  refine hP.out _ _ (⟨H2.out.kc, H2.out.cells mz3, H2.out.cells mz1⟩) (fun hh1 => ?_)
  clear hP P hh0
  refine rd 0 14 ⟨none, _, _, _, _, _⟩ rfl (by kernel_rfl) (fun P hP => ?_)
  rw [if_pos (by rfl)]
  refine wp_store_row 38 (.tmp 15) (.tmp 43) rfl w2.heap.size (#[.int .i64 7, .int .i64 m.ln, .int .i64 core, .int .i64 m.wh, .int .i64 1, .int .i64 m.ac, .int .i64 own, .int .i64 d.w0, .int .i64 d.w1, .int .i64 d.w2, .int .i64 d.w3, .int .i64 d.w4, .int .i64 d.w5, .int .i64 d.w6, .int .i64 d.w7]) rfl rfl 38 #[.int .i64 0, .int .i64 0, .int .i64 0, .int .i64 0, .int .i64 0, .int .i64 0, .int .i64 0, .int .i64 0, .int .i64 0, .int .i64 0, .int .i64 0, .int .i64 0, .int .i64 0, .int .i64 0, .int .i64 0] (H2.out.box mz0) (by kernel_rfl) rfl (by kernel_rfl) ?_
  have H3 := Lib.hid (H2.out.setRow (cs' := #[.int .i64 7, .int .i64 m.ln, .int .i64 core, .int .i64 m.wh, .int .i64 1, .int .i64 m.ac, .int .i64 own, .int .i64 d.w0, .int .i64 d.w1, .int .i64 d.w2, .int .i64 d.w3, .int .i64 d.w4, .int .i64 d.w5, .int .i64 d.w6, .int .i64 d.w7]))
  refine hP.out _ _ (⟨H3.out.kc, H3.out.cells mz3, H3.out.cells mz1⟩) (fun hh2 => ?_)
  clear hP P hh1
  simp only [Act.put]
  refine wpAnyH_done (by kernel_rfl) ?_ _
  refine NoPanic.normal ?_
  clear hh2
  have hx3 := H3.out.cells mz0
  clear H1 H2
  have H4 := Lib.hid (H3.out.perm (((List.Perm.swap _ _ _).cons _).trans (List.Perm.swap _ _ _)))
  have h10 := H4.out.box mz0
  generalize World.setRow _ w2.heap.size _ = w5 at *
  go_wp2_with ((with_reducible refine wpList_store_row (o := ⟨none, _, _, _, _, _⟩) rfl 38 (.tmp 10) (.tmp 44) rfl (w.heap.size + 1) (#[.int .i64 7, .int .i64 m.ln, .int .i64 core, .int .i64 m.wh, .int .i64 1, .int .i64 m.ac, .int .i64 own, .int .i64 d.w0, .int .i64 d.w1, .int .i64 d.w2, .int .i64 d.w3, .int .i64 d.w4, .int .i64 d.w5, .int .i64 d.w6, .int .i64 d.w7]) ?sx ?sy 38 ?old ?sg ?si ?so ?s1 ?_); (case sx => rfl); (case sy => rfl); (case old => exact #[.int .i64 0, .int .i64 0, .int .i64 0, .int .i64 0, .int .i64 0, .int .i64 0, .int .i64 0, .int .i64 0, .int .i64 0, .int .i64 0, .int .i64 0, .int .i64 0, .int .i64 0, .int .i64 0, .int .i64 0]); (case sg => exact h10); (case si => kernel_rfl); (case so => rfl); (case s1 => kernel_rfl))
  exact tell_ret (r := (msg 7 m.ln core m.wh 1 m.ac own d, true, 0)) rfl rfl rfl rfl (setRow_heap _ _ _ _ _ _ h10) H4.out.setRow.drop.drop.drop.drop
 ·rw [if_pos e1]
  have e2 : (er != 0) = true := by simpa using e1
  clear e1
  go_enter Tryz.func136, Tryz.ntmps136
  go_wp2_with fail
  refine HL.out.mono ?_
  rintro e w1 ⟨rfl, ho⟩
  have H1 := Lib.hid (ho.add (.cells (dcells d) 36)).swap
  clear ho hx
  go_wp2_with fail
  refine (noEntry_any _).mono ?_
  rintro e w3 ⟨rfl, hb3⟩
  have H3 := Lib.hid (H1.out.step hb3)
  have h10 := H3.out.box mz0
  clear hb3
  go_wp2_with ((with_reducible refine wpList_store_row (o := ⟨none, _, _, _, _, _⟩) rfl 38 (.tmp 10) (.tmp 28) rfl (w.heap.size + 1) (mcells m0) ?sx ?sy 38 ?old ?sg ?si ?so ?s1 ?_); (case sx => rfl); (case sy => rfl); (case old => exact #[.int .i64 0, .int .i64 0, .int .i64 0, .int .i64 0, .int .i64 0, .int .i64 0, .int .i64 0, .int .i64 0, .int .i64 0, .int .i64 0, .int .i64 0, .int .i64 0, .int .i64 0, .int .i64 0, .int .i64 0]); (case sg => exact h10); (case si => kernel_rfl); (case so => rfl); (case s1 => kernel_rfl))
  exact tell_ret (r := (m0, false, 7)) rfl rfl rfl rfl (setRow_heap _ _ _ _ _ _ h10) H3.out.setRow.drop.drop.drop
set_option maxRecDepth 100000 in
set_option maxHeartbeats 2000000 in
theorem tell_give (h : OwnP w0 K c core n s bx w) (m : Msg) (left own : Int) :
  Calls Tryz.prog 136 #[ptr K.k, mv m, .int .i64 left, .int .i64 own, giveV K] w (RetT (tellP c core s Wb.gone m left own).1 (OwnP w0 K c core n (tellP c core s Wb.gone m left own).2 bx)) := by
 unfold tellP
 have H0 := Lib.hid (h.add2 (.cells (mcells m) 38) (.cells #[.int .i64 0, .int .i64 0, .int .i64 0, .int .i64 0, .int .i64 0, .int .i64 0, .int .i64 0, .int .i64 0, .int .i64 0, .int .i64 0, .int .i64 0, .int .i64 0, .int .i64 0, .int .i64 0, .int .i64 0] 38))
 have HL := Lib.hid (leave_give H0.out m.ln left)
 have hx := H0.out.cells mz1
 clear h
 generalize leaveP c s Wb.gone m.ln left = r at *
 obtain ⟨⟨d, er⟩, s2⟩ := r
 show Calls _ _ _ _ (RetT (if er ≠ 0 then ((m0, false, 7), s2) else ((msg 7 m.ln core m.wh 1 m.ac own d, true, 0), s2)).1 (OwnP w0 K c core n (if er ≠ 0 then ((m0, false, 7), s2) else ((msg 7 m.ln core m.wh 1 m.ac own d, true, 0), s2)).2 bx))
 replace HL := Lib.hid (show Calls _ _ _ _ (RetD d er (OwnP w0 K c core n s2 _)) from HL.out)
 by_cases e1 : er = 0
 ·rw [if_neg (show ¬ er ≠ 0 from fun q => q e1)]
  subst e1
  go_enter Tryz.func136, Tryz.ntmps136
  go_wp2_with fail
  refine HL.out.mono ?_
  rintro e w1 ⟨rfl, ho⟩
  have H1 := Lib.hid (ho.add (.cells (dcells d) 36))
  clear ho hx
  go_wp2_with fail
  obtain ⟨w2, hw2⟩ : ∃ w2, w2 = w1.alloc (.cells (dcells d) 36) := ⟨_, rfl⟩
  rw [← hw2] at H1
  change Code.wp _ _ _ _ (w1.alloc (.cells (dcells d) 36))
  rw [← hw2]
  clear hw2
  refine wp_region_noPanic ?_
  refine wp_region_held_drew (S := (fun w' : World => (∀ o, w'.cell? ⟨K.k, o, none⟩ = (kcells c core K)[o]?) ∧ (∀ o, w'.cell? ⟨w.heap.size, o, none⟩ = (mcells m)[o]?) ∧ (∀ o, w'.cell? ⟨w1.heap.size, o, none⟩ = (dcells d)[o]?))) (by kernel_rfl) ⟨H1.out.kc, H1.out.cells mz2, H1.out.cells mz0⟩ (fun hh0 => ?_)
  replace H1 := Lib.hid H1.out.drew
  generalize World.drew w2 = w2 at *
  refine tk 14 0 ⟨some 31, _, _, _, _, _⟩ (.pointer (some ⟨w.heap.size, 1, none⟩)) rfl (by kernel_rfl) (by rfl) hh0 ?_ ?_
  ·intro w' _
   go_simp
  simp only [Act.put, setIfInBounds_toArray, set_cons_zero, set_cons_succ]
  refine tk 13 1 ⟨some 32, _, _, _, _, _⟩ (.int .i64 m.ln) rfl (by kernel_rfl) (by rfl) hh0 ?_ ?_
  ·rintro w' ⟨-, c0, -⟩
   go_simp
  simp only [Act.put, setIfInBounds_toArray, set_cons_zero, set_cons_succ]
  refine tk 12 2 ⟨some 33, _, _, _, _, _⟩ (ptr K.k) rfl (by kernel_rfl) (by rfl) hh0 ?_ ?_
  ·intro w' _
   go_simp
  simp only [Act.put, setIfInBounds_toArray, set_cons_zero, set_cons_succ]
  refine tk 11 3 ⟨some 34, _, _, _, _, _⟩ (ptr K.k) rfl (by kernel_rfl) (by rfl) hh0 ?_ ?_
  ·intro w' _
   go_simp
  simp only [Act.put, setIfInBounds_toArray, set_cons_zero, set_cons_succ]
  refine tk 10 4 ⟨some 35, _, _, _, _, _⟩ (.pointer (some ⟨K.k, 13, none⟩)) rfl (by kernel_rfl) (by rfl) hh0 ?_ ?_
  ·intro w' _
   go_simp
  simp only [Act.put, setIfInBounds_toArray, set_cons_zero, set_cons_succ]
  refine tk 9 5 ⟨some 36, _, _, _, _, _⟩ (.int .i64 core) rfl (by kernel_rfl) (by rfl) hh0 ?_ ?_
  ·rintro w' ⟨c0, -, -⟩
   go_simp
  simp only [Act.put, setIfInBounds_toArray, set_cons_zero, set_cons_succ]
  refine tk 8 6 ⟨some 37, _, _, _, _, _⟩ (.pointer (some ⟨w.heap.size, 4, none⟩)) rfl (by kernel_rfl) (by rfl) hh0 ?_ ?_
  ·intro w' _
   go_simp
  simp only [Act.put, setIfInBounds_toArray, set_cons_zero, set_cons_succ]
  refine tk 7 7 ⟨some 38, _, _, _, _, _⟩ (.int .i64 m.wh) rfl (by kernel_rfl) (by rfl) hh0 ?_ ?_
  ·rintro w' ⟨-, c0, -⟩
   go_simp
  simp only [Act.put, setIfInBounds_toArray, set_cons_zero, set_cons_succ]
  refine tk 6 8 ⟨some 39, _, _, _, _, _⟩ (.pointer (some ⟨w.heap.size, 5, none⟩)) rfl (by kernel_rfl) (by rfl) hh0 ?_ ?_
  ·intro w' _
   go_simp
  simp only [Act.put, setIfInBounds_toArray, set_cons_zero, set_cons_succ]
  refine tk 5 9 ⟨some 40, _, _, _, _, _⟩ (.int .i64 m.ac) rfl (by kernel_rfl) (by rfl) hh0 ?_ ?_
  ·rintro w' ⟨-, c0, -⟩
   go_simp
  simp only [Act.put, setIfInBounds_toArray, set_cons_zero, set_cons_succ]
  refine tk 4 10 ⟨some 41, _, _, _, _, _⟩ (.int .i64 own) rfl (by kernel_rfl) (by rfl) hh0 ?_ ?_
  ·intro w' _
   go_simp
  simp only [Act.put, setIfInBounds_toArray, set_cons_zero, set_cons_succ]
  refine tk 3 11 ⟨some 42, _, _, _, _, _⟩ (.agg (dcells d)) rfl (by kernel_rfl) (by rfl) hh0 ?_ ?_
  ·rintro w' ⟨-, -, c0⟩
   go_simp
  simp only [Act.put, setIfInBounds_toArray, set_cons_zero, set_cons_succ]
  refine tk 2 12 ⟨some 43, _, _, _, _, _⟩ (.agg (#[.int .i64 7, .int .i64 m.ln, .int .i64 core, .int .i64 m.wh, .int .i64 1, .int .i64 m.ac, .int .i64 own, .int .i64 d.w0, .int .i64 d.w1, .int .i64 d.w2, .int .i64 d.w3, .int .i64 d.w4, .int .i64 d.w5, .int .i64 d.w6, .int .i64 d.w7])) rfl (by kernel_rfl) (by rfl) hh0 ?_ ?_
  ·intro w' _
   go_simp
  simp only [Act.put, setIfInBounds_toArray, set_cons_zero, set_cons_succ]
  refine rd 1 13 ⟨some 15, _, _, _, _, _⟩ rfl (by kernel_rfl) (fun P hP => ?_)
  go_simp
  have H2 := Lib.hid (H1.out.add (.cells #[.int .i64 0, .int .i64 0, .int .i64 0, .int .i64 0, .int .i64 0, .int .i64 0, .int .i64 0, .int .i64 0, .int .i64 0, .int .i64 0, .int .i64 0, .int .i64 0, .int .i64 0, .int .i64 0, .int .i64 0] 38))
  show P _ _
  refine hP.out _ _ (⟨H2.out.kc, H2.out.cells mz3, H2.out.cells mz1⟩) (fun hh1 => ?_)
  clear hP P hh0
  refine rd 0 14 ⟨none, _, _, _, _, _⟩ rfl (by kernel_rfl) (fun P hP => ?_)
  rw [if_pos (by rfl)]
  refine wp_store_row 38 (.tmp 15) (.tmp 43) rfl w2.heap.size (#[.int .i64 7, .int .i64 m.ln, .int .i64 core, .int .i64 m.wh, .int .i64 1, .int .i64 m.ac, .int .i64 own, .int .i64 d.w0, .int .i64 d.w1, .int .i64 d.w2, .int .i64 d.w3, .int .i64 d.w4, .int .i64 d.w5, .int .i64 d.w6, .int .i64 d.w7]) rfl rfl 38 #[.int .i64 0, .int .i64 0, .int .i64 0, .int .i64 0, .int .i64 0, .int .i64 0, .int .i64 0, .int .i64 0, .int .i64 0, .int .i64 0, .int .i64 0, .int .i64 0, .int .i64 0, .int .i64 0, .int .i64 0] (H2.out.box mz0) (by kernel_rfl) rfl (by kernel_rfl) ?_
  have H3 := Lib.hid (H2.out.setRow (cs' := #[.int .i64 7, .int .i64 m.ln, .int .i64 core, .int .i64 m.wh, .int .i64 1, .int .i64 m.ac, .int .i64 own, .int .i64 d.w0, .int .i64 d.w1, .int .i64 d.w2, .int .i64 d.w3, .int .i64 d.w4, .int .i64 d.w5, .int .i64 d.w6, .int .i64 d.w7]))
  refine hP.out _ _ (⟨H3.out.kc, H3.out.cells mz3, H3.out.cells mz1⟩) (fun hh2 => ?_)
  clear hP P hh1
  simp only [Act.put]
  refine wpAnyH_done (by kernel_rfl) ?_ _
  refine NoPanic.normal ?_
  clear hh2
  have hx3 := H3.out.cells mz0
  clear H1 H2
  have H4 := Lib.hid (H3.out.perm (((List.Perm.swap _ _ _).cons _).trans (List.Perm.swap _ _ _)))
  have h10 := H4.out.box mz0
  generalize World.setRow _ w2.heap.size _ = w5 at *
  go_wp2_with ((with_reducible refine wpList_store_row (o := ⟨none, _, _, _, _, _⟩) rfl 38 (.tmp 10) (.tmp 44) rfl (w.heap.size + 1) (#[.int .i64 7, .int .i64 m.ln, .int .i64 core, .int .i64 m.wh, .int .i64 1, .int .i64 m.ac, .int .i64 own, .int .i64 d.w0, .int .i64 d.w1, .int .i64 d.w2, .int .i64 d.w3, .int .i64 d.w4, .int .i64 d.w5, .int .i64 d.w6, .int .i64 d.w7]) ?sx ?sy 38 ?old ?sg ?si ?so ?s1 ?_); (case sx => rfl); (case sy => rfl); (case old => exact #[.int .i64 0, .int .i64 0, .int .i64 0, .int .i64 0, .int .i64 0, .int .i64 0, .int .i64 0, .int .i64 0, .int .i64 0, .int .i64 0, .int .i64 0, .int .i64 0, .int .i64 0, .int .i64 0, .int .i64 0]); (case sg => exact h10); (case si => kernel_rfl); (case so => rfl); (case s1 => kernel_rfl))
  exact tell_ret (r := (msg 7 m.ln core m.wh 1 m.ac own d, true, 0)) rfl rfl rfl rfl (setRow_heap _ _ _ _ _ _ h10) H4.out.setRow.drop.drop.drop.drop
 ·rw [if_pos e1]
  have e2 : (er != 0) = true := by simpa using e1
  clear e1
  go_enter Tryz.func136, Tryz.ntmps136
  go_wp2_with fail
  refine HL.out.mono ?_
  rintro e w1 ⟨rfl, ho⟩
  have H1 := Lib.hid (ho.add (.cells (dcells d) 36)).swap
  clear ho hx
  go_wp2_with fail
  refine (noEntry_any _).mono ?_
  rintro e w3 ⟨rfl, hb3⟩
  have H3 := Lib.hid (H1.out.step hb3)
  have h10 := H3.out.box mz0
  clear hb3
  go_wp2_with ((with_reducible refine wpList_store_row (o := ⟨none, _, _, _, _, _⟩) rfl 38 (.tmp 10) (.tmp 28) rfl (w.heap.size + 1) (mcells m0) ?sx ?sy 38 ?old ?sg ?si ?so ?s1 ?_); (case sx => rfl); (case sy => rfl); (case old => exact #[.int .i64 0, .int .i64 0, .int .i64 0, .int .i64 0, .int .i64 0, .int .i64 0, .int .i64 0, .int .i64 0, .int .i64 0, .int .i64 0, .int .i64 0, .int .i64 0, .int .i64 0, .int .i64 0, .int .i64 0]); (case sg => exact h10); (case si => kernel_rfl); (case so => rfl); (case s1 => kernel_rfl))
  exact tell_ret (r := (m0, false, 7)) rfl rfl rfl rfl (setRow_heap _ _ _ _ _ _ h10) H3.out.setRow.drop.drop.drop
set_option maxRecDepth 100000 in
set_option maxHeartbeats 1000000 in
theorem Own.tshare (h : OwnP w0 K c core n s bx w) (m : Msg) :
  Calls Tryz.prog 105 #[ptr K.k, mv m] w (RetT (tellP c core s id m 3 1).1 (OwnP w0 K c core n (tellP c core s id m 3 1).2 bx)) := by
 have H0 := Lib.hid (h.add2 (.cells (mcells m) 38) (.cells #[.int .i64 0, .int .i64 0, .int .i64 0, .int .i64 0, .int .i64 0, .int .i64 0, .int .i64 0, .int .i64 0, .int .i64 0, .int .i64 0, .int .i64 0, .int .i64 0, .int .i64 0, .int .i64 0, .int .i64 0] 38))
 have HT := Lib.hid (fun w1 bx (h : OwnP w0 K c core n s bx w1) => tell_share h m 3 1)
 have hmf : ∀ (fn : Fn) (first cap : Array Value) (w : World), (Instr.makeFunc fn first cap).run Tryz.prog w = .ok (.func fn first cap) w := fun _ _ _ _ => rfl
 clear h
 generalize tellP c core s id m 3 1 = r at *
 obtain ⟨r, s2⟩ := r
 go_enter Tryz.func105, Tryz.ntmps105
 go_wp2_with fail
 obtain ⟨w2, hw2⟩ : ∃ w2, w2 = (w.alloc (.cells (mcells m) 38)).alloc (.cells #[.int .i64 0, .int .i64 0, .int .i64 0, .int .i64 0, .int .i64 0, .int .i64 0, .int .i64 0, .int .i64 0, .int .i64 0, .int .i64 0, .int .i64 0, .int .i64 0, .int .i64 0, .int .i64 0, .int .i64 0] 38) := ⟨_, rfl⟩
 rw [← hw2] at H0
 change Code.wp _ _ _ _ ((w.alloc (.cells (mcells m) 38)).alloc (.cells #[.int .i64 0, .int .i64 0, .int .i64 0, .int .i64 0, .int .i64 0, .int .i64 0, .int .i64 0, .int .i64 0, .int .i64 0, .int .i64 0, .int .i64 0, .int .i64 0, .int .i64 0, .int .i64 0, .int .i64 0] 38))
 rw [← hw2]
 clear hw2
 refine wp_region_noPanic ?_
 refine wp_region_held_drew (S := (fun w' : World => (∀ o, w'.cell? ⟨K.k, o, none⟩ = (kcells c core K)[o]?) ∧ (∀ o, w'.cell? ⟨w.heap.size, o, none⟩ = (mcells m)[o]?))) (by kernel_rfl) ⟨H0.out.kc, H0.out.cells mz1⟩ (fun hh0 => ?_)
 replace H0 := Lib.hid H0.out.drew
 generalize World.drew w2 = w2 at *
 refine tk 13 0 ⟨some 7, _, _, _, _, _⟩ (ptr K.k) rfl (by kernel_rfl) (by rfl) hh0 ?_ ?_
 ·intro w' _
  go_simp
 simp only [Act.put, setIfInBounds_toArray, set_cons_zero, set_cons_succ]
 refine tk 12 1 ⟨some 8, _, _, _, _, _⟩ (mv m) rfl (by kernel_rfl) (by rfl) hh0 ?_ ?_
 ·rintro w' ⟨-, c0⟩
  go_simp
 simp only [Act.put, setIfInBounds_toArray, set_cons_zero, set_cons_succ]
 refine tk 11 2 ⟨some 9, _, _, _, _, _⟩ (ptr K.k) rfl (by kernel_rfl) (by rfl) hh0 ?_ ?_
 ·intro w' _
  go_simp
 simp only [Act.put, setIfInBounds_toArray, set_cons_zero, set_cons_succ]
 refine tk 10 3 ⟨some 10, _, _, _, _, _⟩ (ptr K.k) rfl (by kernel_rfl) (by rfl) hh0 ?_ ?_
 ·intro w' _
  go_simp
 simp only [Act.put, setIfInBounds_toArray, set_cons_zero, set_cons_succ]
 refine tk 9 4 ⟨some 11, _, _, _, _, _⟩ (.pointer (some ⟨K.k, 16, none⟩)) rfl (by kernel_rfl) (by rfl) hh0 ?_ ?_
 ·intro w' _
  go_simp
 simp only [Act.put, setIfInBounds_toArray, set_cons_zero, set_cons_succ]
 refine tk 8 5 ⟨some 12, _, _, _, _, _⟩ (ptr K.b) rfl (by kernel_rfl) (by rfl) hh0 ?_ ?_
 ·rintro w' ⟨c0, -⟩
  go_simp
 simp only [Act.put, setIfInBounds_toArray, set_cons_zero, set_cons_succ]
 refine tk 7 6 ⟨some 13, _, _, _, _, _⟩ (shareV K) rfl (by kernel_rfl) (by rfl) hh0 ?_ ?_
 ·intro w' _
  go_simp
 simp only [Act.put, setIfInBounds_toArray, set_cons_zero, set_cons_succ]
 refine rd 6 7 ⟨some 14, _, _, _, _, _⟩ rfl (by kernel_rfl) (fun P hP => ?_)
 go_simp
 refine (HT.out _ _ H0.out).mono ?_
 rintro e w3 ⟨rfl, ho⟩
 have H3 := Lib.hid ho
 clear ho
 show P _ _
 refine hP.out _ _ (⟨H3.out.kc, H3.out.cells mz1⟩) (fun hh1 => ?_)
 clear hP P hh0
 try simp only [Act.put, setIfInBounds_toArray, set_cons_zero, set_cons_succ]
 refine tk 5 8 ⟨some 15, _, _, _, _, _⟩ (mv r.1) rfl (by kernel_rfl) (by rfl) hh1 ?_ ?_
 ·intro w' _
  go_simp
 simp only [Act.put, setIfInBounds_toArray, set_cons_zero, set_cons_succ]
 refine tk 4 9 ⟨some 16, _, _, _, _, _⟩ (.bool r.2.1) rfl (by kernel_rfl) (by rfl) hh1 ?_ ?_
 ·intro w' _
  go_simp
 simp only [Act.put, setIfInBounds_toArray, set_cons_zero, set_cons_succ]
 refine tk 3 10 ⟨some 17, _, _, _, _, _⟩ (.int .i64 r.2.2) rfl (by kernel_rfl) (by rfl) hh1 ?_ ?_
 ·intro w' _
  go_simp
 simp only [Act.put, setIfInBounds_toArray, set_cons_zero, set_cons_succ]
 refine rd 2 11 ⟨none, _, _, _, _, _⟩ rfl (by kernel_rfl) (fun P hP => ?_)
 rw [if_pos (by rfl)]
 refine wp_store_row 38 (.tmp 4) (.tmp 15) rfl (w.heap.size + 1) (mcells r.1) rfl rfl 38 #[.int .i64 0, .int .i64 0, .int .i64 0, .int .i64 0, .int .i64 0, .int .i64 0, .int .i64 0, .int .i64 0, .int .i64 0, .int .i64 0, .int .i64 0, .int .i64 0, .int .i64 0, .int .i64 0, .int .i64 0] (H3.out.box mz0) (by kernel_rfl) rfl (by kernel_rfl) ?_
 have H4 := Lib.hid (H3.out.setRow (cs' := mcells r.1))
 refine hP.out _ _ (⟨H4.out.kc, H4.out.cells mz1⟩) (fun hh2 => ?_)
 clear hP P hh1
 simp only [Act.put]
 refine tk 1 12 ⟨some 5, _, _, _, _, _⟩ (.bool r.2.1) rfl (by kernel_rfl) (by rfl) hh2 ?_ ?_
 ·intro w' _
  go_simp
 simp only [Act.put, setIfInBounds_toArray, set_cons_zero, set_cons_succ]
 refine tk 0 13 ⟨some 6, _, _, _, _, _⟩ (.int .i64 r.2.2) rfl (by kernel_rfl) (by rfl) hh2 ?_ ?_
 ·intro w' _
  go_simp
 simp only [Act.put, setIfInBounds_toArray, set_cons_zero, set_cons_succ]
 refine wpAnyH_done (by kernel_rfl) ?_ _
 refine NoPanic.normal ?_
 clear hh2
 have h4 := H4.out.box mz0
 go_wp2
 exact share_ret rfl rfl rfl rfl h4 H4.out.drop.drop
set_option maxRecDepth 100000 in
set_option maxHeartbeats 1000000 in
theorem Own.tgive (h : OwnP w0 K c core n s bx w) (m : Msg) :
  Calls Tryz.prog 106 #[ptr K.k, mv m] w (RetT (tellP c core s Wb.gone m 0 4).1 (OwnP w0 K c core n (tellP c core s Wb.gone m 0 4).2 bx)) := by
 have H0 := Lib.hid (h.add2 (.cells (mcells m) 38) (.cells #[.int .i64 0, .int .i64 0, .int .i64 0, .int .i64 0, .int .i64 0, .int .i64 0, .int .i64 0, .int .i64 0, .int .i64 0, .int .i64 0, .int .i64 0, .int .i64 0, .int .i64 0, .int .i64 0, .int .i64 0] 38))
 have HT := Lib.hid (fun w1 bx (h : OwnP w0 K c core n s bx w1) => tell_give h m 0 4)
 have hmf : ∀ (fn : Fn) (first cap : Array Value) (w : World), (Instr.makeFunc fn first cap).run Tryz.prog w = .ok (.func fn first cap) w := fun _ _ _ _ => rfl
 clear h
 generalize tellP c core s Wb.gone m 0 4 = r at *
 obtain ⟨r, s2⟩ := r
 go_enter Tryz.func106, Tryz.ntmps106
 go_wp2_with fail
 obtain ⟨w2, hw2⟩ : ∃ w2, w2 = (w.alloc (.cells (mcells m) 38)).alloc (.cells #[.int .i64 0, .int .i64 0, .int .i64 0, .int .i64 0, .int .i64 0, .int .i64 0, .int .i64 0, .int .i64 0, .int .i64 0, .int .i64 0, .int .i64 0, .int .i64 0, .int .i64 0, .int .i64 0, .int .i64 0] 38) := ⟨_, rfl⟩
 rw [← hw2] at H0
 change Code.wp _ _ _ _ ((w.alloc (.cells (mcells m) 38)).alloc (.cells #[.int .i64 0, .int .i64 0, .int .i64 0, .int .i64 0, .int .i64 0, .int .i64 0, .int .i64 0, .int .i64 0, .int .i64 0, .int .i64 0, .int .i64 0, .int .i64 0, .int .i64 0, .int .i64 0, .int .i64 0] 38))
 rw [← hw2]
 clear hw2
 refine wp_region_noPanic ?_
 refine wp_region_held_drew (S := (fun w' : World => (∀ o, w'.cell? ⟨K.k, o, none⟩ = (kcells c core K)[o]?) ∧ (∀ o, w'.cell? ⟨w.heap.size, o, none⟩ = (mcells m)[o]?))) (by kernel_rfl) ⟨H0.out.kc, H0.out.cells mz1⟩ (fun hh0 => ?_)
 replace H0 := Lib.hid H0.out.drew
 generalize World.drew w2 = w2 at *
 refine tk 13 0 ⟨some 7, _, _, _, _, _⟩ (ptr K.k) rfl (by kernel_rfl) (by rfl) hh0 ?_ ?_
 ·intro w' _
  go_simp
 simp only [Act.put, setIfInBounds_toArray, set_cons_zero, set_cons_succ]
 refine tk 12 1 ⟨some 8, _, _, _, _, _⟩ (mv m) rfl (by kernel_rfl) (by rfl) hh0 ?_ ?_
 ·rintro w' ⟨-, c0⟩
  go_simp
 simp only [Act.put, setIfInBounds_toArray, set_cons_zero, set_cons_succ]
 refine tk 11 2 ⟨some 9, _, _, _, _, _⟩ (ptr K.k) rfl (by kernel_rfl) (by rfl) hh0 ?_ ?_
 ·intro w' _
  go_simp
 simp only [Act.put, setIfInBounds_toArray, set_cons_zero, set_cons_succ]
 refine tk 10 3 ⟨some 10, _, _, _, _, _⟩ (ptr K.k) rfl (by kernel_rfl) (by rfl) hh0 ?_ ?_
 ·intro w' _
  go_simp
 simp only [Act.put, setIfInBounds_toArray, set_cons_zero, set_cons_succ]
 refine tk 9 4 ⟨some 11, _, _, _, _, _⟩ (.pointer (some ⟨K.k, 16, none⟩)) rfl (by kernel_rfl) (by rfl) hh0 ?_ ?_
 ·intro w' _
  go_simp
 simp only [Act.put, setIfInBounds_toArray, set_cons_zero, set_cons_succ]
 refine tk 8 5 ⟨some 12, _, _, _, _, _⟩ (ptr K.b) rfl (by kernel_rfl) (by rfl) hh0 ?_ ?_
 ·rintro w' ⟨c0, -⟩
  go_simp
 simp only [Act.put, setIfInBounds_toArray, set_cons_zero, set_cons_succ]
 refine tk 7 6 ⟨some 13, _, _, _, _, _⟩ (giveV K) rfl (by kernel_rfl) (by rfl) hh0 ?_ ?_
 ·intro w' _
  go_simp
 simp only [Act.put, setIfInBounds_toArray, set_cons_zero, set_cons_succ]
 refine rd 6 7 ⟨some 14, _, _, _, _, _⟩ rfl (by kernel_rfl) (fun P hP => ?_)
 go_simp
 refine (HT.out _ _ H0.out).mono ?_
 rintro e w3 ⟨rfl, ho⟩
 have H3 := Lib.hid ho
 clear ho
 show P _ _
 refine hP.out _ _ (⟨H3.out.kc, H3.out.cells mz1⟩) (fun hh1 => ?_)
 clear hP P hh0
 try simp only [Act.put, setIfInBounds_toArray, set_cons_zero, set_cons_succ]
 refine tk 5 8 ⟨some 15, _, _, _, _, _⟩ (mv r.1) rfl (by kernel_rfl) (by rfl) hh1 ?_ ?_
 ·intro w' _
  go_simp
 simp only [Act.put, setIfInBounds_toArray, set_cons_zero, set_cons_succ]
 refine tk 4 9 ⟨some 16, _, _, _, _, _⟩ (.bool r.2.1) rfl (by kernel_rfl) (by rfl) hh1 ?_ ?_
 ·intro w' _
  go_simp
 simp only [Act.put, setIfInBounds_toArray, set_cons_zero, set_cons_succ]
 refine tk 3 10 ⟨some 17, _, _, _, _, _⟩ (.int .i64 r.2.2) rfl (by kernel_rfl) (by rfl) hh1 ?_ ?_
 ·intro w' _
  go_simp
 simp only [Act.put, setIfInBounds_toArray, set_cons_zero, set_cons_succ]
 refine rd 2 11 ⟨none, _, _, _, _, _⟩ rfl (by kernel_rfl) (fun P hP => ?_)
 rw [if_pos (by rfl)]
 refine wp_store_row 38 (.tmp 4) (.tmp 15) rfl (w.heap.size + 1) (mcells r.1) rfl rfl 38 #[.int .i64 0, .int .i64 0, .int .i64 0, .int .i64 0, .int .i64 0, .int .i64 0, .int .i64 0, .int .i64 0, .int .i64 0, .int .i64 0, .int .i64 0, .int .i64 0, .int .i64 0, .int .i64 0, .int .i64 0] (H3.out.box mz0) (by kernel_rfl) rfl (by kernel_rfl) ?_
 have H4 := Lib.hid (H3.out.setRow (cs' := mcells r.1))
 refine hP.out _ _ (⟨H4.out.kc, H4.out.cells mz1⟩) (fun hh2 => ?_)
 clear hP P hh1
 simp only [Act.put]
 refine tk 1 12 ⟨some 5, _, _, _, _, _⟩ (.bool r.2.1) rfl (by kernel_rfl) (by rfl) hh2 ?_ ?_
 ·intro w' _
  go_simp
 simp only [Act.put, setIfInBounds_toArray, set_cons_zero, set_cons_succ]
 refine tk 0 13 ⟨some 6, _, _, _, _, _⟩ (.int .i64 r.2.2) rfl (by kernel_rfl) (by rfl) hh2 ?_ ?_
 ·intro w' _
  go_simp
 simp only [Act.put, setIfInBounds_toArray, set_cons_zero, set_cons_succ]
 refine wpAnyH_done (by kernel_rfl) ?_ _
 refine NoPanic.normal ?_
 clear hh2
 have h4 := H4.out.box mz0
 go_wp2
 exact give_ret rfl rfl rfl rfl h4 H4.out.drop.drop

end Go.Proofs.YtlfhkjjjocmpbaaGreatDoor.Cc
