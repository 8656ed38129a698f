import Derived.Test.YtlfhkjjjocmpbaaGreatDoorSx
import Derived.Test.YtlfhkjjjocmpbaaGreatDoorQCcJ

namespace Go.Proofs.YtlfhkjjjocmpbaaGreatDoor.Cc
open Go Go.RowKit
open List (setIfInBounds_toArray set_cons_zero set_cons_succ)

variable {w0 w w' : World} {bx : Bx} {K : Kb} {c : Cfg} {core n : Int} {s : St}
theorem came_ret {wr : World} {r : Rp} {P : World → Prop} {a : Act} {g : Nat} (hp : a.tmps.getD 6 undef = .pointer (some ⟨g, 0, none⟩)) (hq : a.tmps.getD 7 undef = .bool r.2.1) (hn : a.tmps.getD 8 undef = .int .i64 r.2.2) (hd : a.defers = []) (hg : wr.heap[g]? = some (.cells (mcells r.1) 38 (0, 0))) (hb : P wr) :
  bodyPost Tryz.prog Tryz.f141 (RetT r P) Exit.ret a wr :=
 bodyPost_ret (v := .tuple #[mv r.1, a.tmps.getD 7 undef, a.tmps.getD 8 undef]) (Ar.results_cell_three Tryz.results141 _ _ g 38 _ (0, 0) _ hp hg Tryz.underlying38 rfl (by kernel_rfl)) hd ⟨by rw [hq, hn], hb⟩
theorem forget_ret {wr : World} {r : Rp} {P : World → Prop} {a : Act} {g : Nat} (hp : a.tmps.getD 4 undef = .pointer (some ⟨g, 0, none⟩)) (hq : a.tmps.getD 5 undef = .bool r.2.1) (hn : a.tmps.getD 6 undef = .int .i64 r.2.2) (hd : a.defers = []) (hg : wr.heap[g]? = some (.cells (mcells r.1) 38 (0, 0))) (hb : P wr) :
  bodyPost Tryz.prog Tryz.f107 (RetT r P) Exit.ret a wr :=
 bodyPost_ret (v := .tuple #[mv r.1, a.tmps.getD 5 undef, a.tmps.getD 6 undef]) (Ar.results_cell_three Tryz.results107 _ _ g 38 _ (0, 0) _ hp hg Tryz.underlying38 rfl (by kernel_rfl)) hd ⟨by rw [hq, hn], hb⟩
theorem fill_ret {wr : World} {r : Rp} {P : World → Prop} {a : Act} {g : Nat} (hp : a.tmps.getD 4 undef = .pointer (some ⟨g, 0, none⟩)) (hq : a.tmps.getD 5 undef = .bool r.2.1) (hn : a.tmps.getD 6 undef = .int .i64 r.2.2) (hd : a.defers = []) (hg : wr.heap[g]? = some (.cells (mcells r.1) 38 (0, 0))) (hb : P wr) :
  bodyPost Tryz.prog Tryz.f108 (RetT r P) Exit.ret a wr :=
 bodyPost_ret (v := .tuple #[mv r.1, a.tmps.getD 5 undef, a.tmps.getD 6 undef]) (Ar.results_cell_three Tryz.results108 _ _ g 38 _ (0, 0) _ hp hg Tryz.underlying38 rfl (by kernel_rfl)) hd ⟨by rw [hq, hn], hb⟩
theorem grant_ret {wr : World} {r : Rp} {P : World → Prop} {a : Act} {g : Nat} (hp : a.tmps.getD 4 undef = .pointer (some ⟨g, 0, none⟩)) (hq : a.tmps.getD 5 undef = .bool r.2.1) (hn : a.tmps.getD 6 undef = .int .i64 r.2.2) (hd : a.defers = []) (hg : wr.heap[g]? = some (.cells (mcells r.1) 38 (0, 0))) (hb : P wr) :
  bodyPost Tryz.prog Tryz.f109 (RetT r P) Exit.ret a wr :=
 bodyPost_ret (v := .tuple #[mv r.1, a.tmps.getD 5 undef, a.tmps.getD 6 undef]) (Ar.results_cell_three Tryz.results109 _ _ g 38 _ (0, 0) _ hp hg Tryz.underlying38 rfl (by kernel_rfl)) hd ⟨by rw [hq, hn], hb⟩
theorem count_ret {wr : World} {r : Rp} {P : World → Prop} {a : Act} {g : Nat} (hp : a.tmps.getD 4 undef = .pointer (some ⟨g, 0, none⟩)) (hq : a.tmps.getD 5 undef = .bool r.2.1) (hn : a.tmps.getD 6 undef = .int .i64 r.2.2) (hd : a.defers = []) (hg : wr.heap[g]? = some (.cells (mcells r.1) 38 (0, 0))) (hb : P wr) :
  bodyPost Tryz.prog Tryz.f110 (RetT r P) Exit.ret a wr :=
 bodyPost_ret (v := .tuple #[mv r.1, a.tmps.getD 5 undef, a.tmps.getD 6 undef]) (Ar.results_cell_three Tryz.results110 _ _ g 38 _ (0, 0) _ hp hg Tryz.underlying38 rfl (by kernel_rfl)) hd ⟨by rw [hq, hn], hb⟩
theorem drop_ret {wr : World} {r : Rp} {P : World → Prop} {a : Act} {g : Nat} (hp : a.tmps.getD 4 undef = .pointer (some ⟨g, 0, none⟩)) (hq : a.tmps.getD 5 undef = .bool r.2.1) (hn : a.tmps.getD 6 undef = .int .i64 r.2.2) (hd : a.defers = []) (hg : wr.heap[g]? = some (.cells (mcells r.1) 38 (0, 0))) (hb : P wr) :
  bodyPost Tryz.prog Tryz.f111 (RetT r P) Exit.ret a wr :=
 bodyPost_ret (v := .tuple #[mv r.1, a.tmps.getD 5 undef, a.tmps.getD 6 undef]) (Ar.results_cell_three Tryz.results111 _ _ g 38 _ (0, 0) _ hp hg Tryz.underlying38 rfl (by kernel_rfl)) hd ⟨by rw [hq, hn], hb⟩
set_option maxRecDepth 100000 in
set_option maxHeartbeats 2000000 in
theorem Own.came (h : OwnP w0 K c core n s bx w) (line er : Int) :
  Calls Tryz.prog 141 #[ptr K.k, .int .i64 line, .int .i64 er] w (RetT (cameP c s line er).1 (OwnP w0 K c core (n + 1) (cameP c s line er).2 bx)) := by
 unfold cameP
 have H0 := Lib.hid (h.add (.cells #[.int .i64 0, .int .i64 0, .int .i64 0, .int .i64 0, .int .i64 0, .int .i64 0, .int .i64 0, .int .i64 0, .int .i64 0, .int .i64 0, .int .i64 0, .int .i64 0, .int .i64 0, .int .i64 0, .int .i64 0] 38))
 clear h
 by_cases e1 : er = 0
 ·rw [if_neg (show ¬ er ≠ 0 from fun q => q e1)]
  subst e1
  have HW := Lib.hid (H0.out.owe line)
  have hk := H0.out.kc
  generalize Mh.oweP s.F line = r at *
  obtain ⟨⟨x, q⟩, F⟩ := r
  cases q
  ·go_enter Tryz.func141, Tryz.ntmps141
   go_wp2_with fail
   refine HW.out.mono ?_
   rintro e w1 ⟨rfl, ho⟩
   have H1 := Lib.hid (ho.add (.cells (Mh.mcells x) 117)).swap
   clear ho hk
   go_wp2_with fail
   refine (nothing_any _).mono ?_
   rintro e w3 ⟨rfl, hb3⟩
   have H3 := Lib.hid (H1.out.step hb3)
   have h6 := H3.out.box mz0
   clear hb3
   go_wp2_with ((with_reducible refine wpList_store_row (o := ⟨none, _, _, _, _, _⟩) rfl 38 (.tmp 6) (.tmp 39) rfl (w.heap.size) (mcells m0) ?sx ?sy 38 ?old ?sg ?si ?so ?s1 ?_); (case sx => rfl); (case sy => rfl); (case old => exact #[.int .i64 0, .int .i64 0, .int .i64 0, .int .i64 0, .int .i64 0, .int .i64 0, .int .i64 0, .int .i64 0, .int .i64 0, .int .i64 0, .int .i64 0, .int .i64 0, .int .i64 0, .int .i64 0, .int .i64 0]); (case sg => exact h6); (case si => kernel_rfl); (case so => rfl); (case s1 => kernel_rfl))
   exact came_ret (r := (m0, false, 0)) rfl rfl rfl rfl (setRow_heap _ _ _ _ _ _ h6) H3.out.setRow.drop.drop
  ·go_enter Tryz.func141, Tryz.ntmps141
   go_wp2_with fail
   refine HW.out.mono ?_
   rintro e w1 ⟨rfl, ho⟩
   have H1 := Lib.hid (ho.add (.cells (Mh.mcells x) 117))
   clear ho hk
   have hk1 := H1.out.kc
   have hx1 := H1.out.cells mz0
   go_wp2_with fail
   go_region_held3 (fun w' => (∀ o, w'.cell? ⟨K.k, o, none⟩ = (kcells c core K)[o]?) ∧ (∀ o, w'.cell? ⟨w1.heap.size, o, none⟩ = (Mh.mcells x)[o]?))
    (first | exact ⟨H3.out.kc, H3.out.cells mz0⟩ | exact ⟨H2.out.kc, H2.out.cells mz0⟩ | exact ⟨hk1, hx1⟩ | go_keep)
    (first
     | (go_at_call 50; refine ((by first | exact H2.out | exact H2.out.drew : OwnP w0 K c core (n + 1) { s with F := F } _ _).set line x.ow (wordsP c s x)).mono ?_; rintro e w3 ⟨⟨i3, rfl⟩, ho⟩; have H3 := Lib.hid ho; clear ho)
     | (go_at_call 157; refine ((by first | exact H1.out | exact H1.out.drew : OwnP w0 K c core (n + 1) { s with F := F } _ _).wordsOf x).mono ?_; rintro e w2 ⟨rfl, hb2⟩; have H2 := (by first | exact Lib.hid (H1.out.step hb2) | exact Lib.hid (H1.out.drew.step hb2)); clear hb2))
   have H4 := Lib.hid H3.out.swap
   clear H3 H2 H1 hk1 hx1
   go_wp2_with fail
   refine (nothing_any _).mono ?_
   rintro e w5 ⟨rfl, hb5⟩
   have H5 := Lib.hid (H4.out.step hb5)
   have h6 := H5.out.box mz0
   clear hb5
   go_wp2_with ((with_reducible refine wpList_store_row (o := ⟨none, _, _, _, _, _⟩) rfl 38 (.tmp 6) (.tmp 39) rfl (w.heap.size) (mcells m0) ?sx ?sy 38 ?old ?sg ?si ?so ?s1 ?_); (case sx => rfl); (case sy => rfl); (case old => exact #[.int .i64 0, .int .i64 0, .int .i64 0, .int .i64 0, .int .i64 0, .int .i64 0, .int .i64 0, .int .i64 0, .int .i64 0, .int .i64 0, .int .i64 0, .int .i64 0, .int .i64 0, .int .i64 0, .int .i64 0]); (case sg => exact h6); (case si => kernel_rfl); (case so => rfl); (case s1 => kernel_rfl))
   exact came_ret (r := (m0, false, 0)) rfl rfl rfl rfl (setRow_heap _ _ _ _ _ _ h6) H5.out.setRow.drop.drop
 ·rw [if_pos e1]
  have e2 : (er != 0) = true := by simpa using e1
  clear e1
  go_enter Tryz.func141, Tryz.ntmps141
  go_wp2_with fail
  refine (noEntry_any _).mono ?_
  rintro e w3 ⟨rfl, hb3⟩
  have H3 := Lib.hid (H0.out.step hb3)
  have h6 := H3.out.box mz0
  clear hb3
  go_wp2_with ((with_reducible refine wpList_store_row (o := ⟨none, _, _, _, _, _⟩) rfl 38 (.tmp 6) (.tmp 14) rfl (w.heap.size) (mcells m0) ?sx ?sy 38 ?old ?sg ?si ?so ?s1 ?_); (case sx => rfl); (case sy => rfl); (case old => exact #[.int .i64 0, .int .i64 0, .int .i64 0, .int .i64 0, .int .i64 0, .int .i64 0, .int .i64 0, .int .i64 0, .int .i64 0, .int .i64 0, .int .i64 0, .int .i64 0, .int .i64 0, .int .i64 0, .int .i64 0]); (case sg => exact h6); (case si => kernel_rfl); (case so => rfl); (case s1 => kernel_rfl))
  exact came_ret (r := (m0, false, 7)) rfl rfl rfl rfl (setRow_heap _ _ _ _ _ _ h6) (H3.out.setRow.drop.more (by omega))

set_option maxRecDepth 100000 in
set_option maxHeartbeats 2000000 in
theorem Own.fill (h : OwnP w0 K c core n s bx w) (m : Msg) :
  Calls Tryz.prog 108 #[ptr K.k, mv m] w (RetT (fillP c s m).1 (OwnP w0 K c core (n + 2) (fillP c s m).2 bx)) := by
 unfold fillP
 have H0 := Lib.hid (h.add2 (.cells (mcells m) 38) (.cells #[.int .i64 0, .int .i64 0, .int .i64 0, .int .i64 0, .int .i64 0, .int .i64 0, .int .i64 0, .int .i64 0, .int .i64 0, .int .i64 0, .int .i64 0, .int .i64 0, .int .i64 0, .int .i64 0, .int .i64 0] 38))
 clear h
 go_enter Tryz.func108, Tryz.ntmps108
 go_wp2_with fail
 obtain ⟨w2, hw2⟩ : ∃ w2, w2 = (w.alloc (.cells (mcells m) 38)).alloc (.cells #[.int .i64 0, .int .i64 0, .int .i64 0, .int .i64 0, .int .i64 0, .int .i64 0, .int .i64 0, .int .i64 0, .int .i64 0, .int .i64 0, .int .i64 0, .int .i64 0, .int .i64 0, .int .i64 0, .int .i64 0] 38) := ⟨_, rfl⟩
 rw [← hw2] at H0
 change Code.wp _ _ _ _ ((w.alloc (.cells (mcells m) 38)).alloc (.cells #[.int .i64 0, .int .i64 0, .int .i64 0, .int .i64 0, .int .i64 0, .int .i64 0, .int .i64 0, .int .i64 0, .int .i64 0, .int .i64 0, .int .i64 0, .int .i64 0, .int .i64 0, .int .i64 0, .int .i64 0] 38))
 rw [← hw2]
 clear hw2
 refine wp_region_noPanic ?_
 refine wp_region_held_drew (S := (fun w' : World => (∀ o, w'.cell? ⟨K.k, o, none⟩ = (kcells c core K)[o]?) ∧ (∀ o, w'.cell? ⟨w.heap.size, o, none⟩ = (mcells m)[o]?))) (by kernel_rfl) ⟨H0.out.kc, H0.out.cells mz1⟩ (fun hh0 => ?_)
 replace H0 := Lib.hid H0.out.drew
 generalize World.drew w2 = w2 at *
 refine tk 22 0 ⟨some 7, _, _, _, _, _⟩ (ptr K.k) rfl (by kernel_rfl) (by rfl) hh0 ?_ ?_
 ·intro w' _
  go_simp
 simp only [Act.put, setIfInBounds_toArray, set_cons_zero, set_cons_succ]
 refine tk 21 1 ⟨some 8, _, _, _, _, _⟩ (.pointer (some ⟨w.heap.size, 1, none⟩)) rfl (by kernel_rfl) (by rfl) hh0 ?_ ?_
 ·intro w' _
  go_simp
 simp only [Act.put, setIfInBounds_toArray, set_cons_zero, set_cons_succ]
 refine tk 20 2 ⟨some 9, _, _, _, _, _⟩ (.int .i64 m.ln) rfl (by kernel_rfl) (by rfl) hh0 ?_ ?_
 ·rintro w' ⟨-, c0⟩
  go_simp
 simp only [Act.put, setIfInBounds_toArray, set_cons_zero, set_cons_succ]
 refine tk 19 3 ⟨some 10, _, _, _, _, _⟩ (ptr K.k) rfl (by kernel_rfl) (by rfl) hh0 ?_ ?_
 ·intro w' _
  go_simp
 simp only [Act.put, setIfInBounds_toArray, set_cons_zero, set_cons_succ]
 refine tk 18 4 ⟨some 11, _, _, _, _, _⟩ (ptr K.k) rfl (by kernel_rfl) (by rfl) hh0 ?_ ?_
 ·intro w' _
  go_simp
 simp only [Act.put, setIfInBounds_toArray, set_cons_zero, set_cons_succ]
 refine tk 17 5 ⟨some 12, _, _, _, _, _⟩ (.pointer (some ⟨K.k, 15, none⟩)) rfl (by kernel_rfl) (by rfl) hh0 ?_ ?_
 ·intro w' _
  go_simp
 simp only [Act.put, setIfInBounds_toArray, set_cons_zero, set_cons_succ]
 refine tk 16 6 ⟨some 13, _, _, _, _, _⟩ (ptr K.f) rfl (by kernel_rfl) (by rfl) hh0 ?_ ?_
 ·rintro w' ⟨c0, -⟩
  go_simp
 simp only [Act.put, setIfInBounds_toArray, set_cons_zero, set_cons_succ]
 refine tk 15 7 ⟨some 14, _, _, _, _, _⟩ (.pointer (some ⟨w.heap.size, 1, none⟩)) rfl (by kernel_rfl) (by rfl) hh0 ?_ ?_
 ·intro w' _
  go_simp
 simp only [Act.put, setIfInBounds_toArray, set_cons_zero, set_cons_succ]
 refine tk 14 8 ⟨some 15, _, _, _, _, _⟩ (.int .i64 m.ln) rfl (by kernel_rfl) (by rfl) hh0 ?_ ?_
 ·rintro w' ⟨-, c0⟩
  go_simp
 simp only [Act.put, setIfInBounds_toArray, set_cons_zero, set_cons_succ]
 refine tk 13 9 ⟨some 16, _, _, _, _, _⟩ (.pointer (some ⟨w.heap.size, 5, none⟩)) rfl (by kernel_rfl) (by rfl) hh0 ?_ ?_
 ·intro w' _
  go_simp
 simp only [Act.put, setIfInBounds_toArray, set_cons_zero, set_cons_succ]
 refine tk 12 10 ⟨some 17, _, _, _, _, _⟩ (.int .i64 m.ac) rfl (by kernel_rfl) (by rfl) hh0 ?_ ?_
 ·rintro w' ⟨-, c0⟩
  go_simp
 simp only [Act.put, setIfInBounds_toArray, set_cons_zero, set_cons_succ]
 refine tk 11 11 ⟨some 18, _, _, _, _, _⟩ (.pointer (some ⟨w.heap.size, 6, none⟩)) rfl (by kernel_rfl) (by rfl) hh0 ?_ ?_
 ·intro w' _
  go_simp
 simp only [Act.put, setIfInBounds_toArray, set_cons_zero, set_cons_succ]
 refine tk 10 12 ⟨some 19, _, _, _, _, _⟩ (.int .i64 m.ow) rfl (by kernel_rfl) (by rfl) hh0 ?_ ?_
 ·rintro w' ⟨-, c0⟩
  go_simp
 simp only [Act.put, setIfInBounds_toArray, set_cons_zero, set_cons_succ]
 refine tk 9 13 ⟨some 20, _, _, _, _, _⟩ (.pointer (some ⟨w.heap.size, 7, none⟩)) rfl (by kernel_rfl) (by rfl) hh0 ?_ ?_
 ·intro w' _
  go_simp
 simp only [Act.put, setIfInBounds_toArray, set_cons_zero, set_cons_succ]
 refine tk 8 14 ⟨some 21, _, _, _, _, _⟩ (.agg #[.int .i64 m.w0, .int .i64 m.w1, .int .i64 m.w2, .int .i64 m.w3, .int .i64 m.w4, .int .i64 m.w5, .int .i64 m.w6, .int .i64 m.w7]) rfl (by kernel_rfl) (by rfl) hh0 ?_ ?_
 ·rintro w' ⟨-, c0⟩
  go_simp
 simp only [Act.put, setIfInBounds_toArray, set_cons_zero, set_cons_succ]
 refine rd 7 15 ⟨some 22, _, _, _, _, _⟩ rfl (by kernel_rfl) (fun P hP => ?_)
 go_simp
 refine (H0.out.data m.ln m.ac m.ow (words m)).mono ?_
 rintro e w3 ⟨rfl, ho⟩
 have H3 := Lib.hid ho
 clear ho
 show P _ _
 refine hP.out _ _ (⟨H3.out.kc, H3.out.cells mz1⟩) (fun hh1 => ?_)
 clear hP P hh0
 generalize Mh.chg s.F m.ln (Mh.dataF m.ac m.ow (words m)) = r at *
 obtain ⟨er, F⟩ := r
 refine rd 6 16 ⟨some 23, _, _, _, _, _⟩ rfl (by kernel_rfl) (fun P hP => ?_)
 go_simp
 refine (H3.out.came m.ln er).mono ?_
 rintro e w4 ⟨rfl, ho⟩
 have H4 := Lib.hid ho
 clear ho
 show P _ _
 refine hP.out _ _ (⟨H4.out.kc, H4.out.cells mz1⟩) (fun hh2 => ?_)
 clear hP P hh1
 generalize cameP c { s with F := F } m.ln er = r at *
 obtain ⟨r, s2⟩ := r
 refine tk 5 17 ⟨some 24, _, _, _, _, _⟩ (mv r.1) rfl (by kernel_rfl) (by rfl) hh2 ?_ ?_
 ·intro w' _
  go_simp
 simp only [Act.put, setIfInBounds_toArray, set_cons_zero, set_cons_succ]
 refine tk 4 18 ⟨some 25, _, _, _, _, _⟩ (.bool r.2.1) rfl (by kernel_rfl) (by rfl) hh2 ?_ ?_
 ·intro w' _
  go_simp
 simp only [Act.put, setIfInBounds_toArray, set_cons_zero, set_cons_succ]
 refine tk 3 19 ⟨some 26, _, _, _, _, _⟩ (.int .i64 r.2.2) rfl (by kernel_rfl) (by rfl) hh2 ?_ ?_
 ·intro w' _
  go_simp
 simp only [Act.put, setIfInBounds_toArray, set_cons_zero, set_cons_succ]
 refine rd 2 20 ⟨none, _, _, _, _, _⟩ rfl (by kernel_rfl) (fun P hP => ?_)
 rw [if_pos (by rfl)]
 refine wp_store_row 38 (.tmp 4) (.tmp 24) rfl (w.heap.size + 1) (mcells r.1) rfl rfl 38 #[.int .i64 0, .int .i64 0, .int .i64 0, .int .i64 0, .int .i64 0, .int .i64 0, .int .i64 0, .int .i64 0, .int .i64 0, .int .i64 0, .int .i64 0, .int .i64 0, .int .i64 0, .int .i64 0, .int .i64 0] (H4.out.box mz0) (by kernel_rfl) rfl (by kernel_rfl) ?_
 have H5 := Lib.hid (H4.out.setRow (cs' := mcells r.1))
 refine hP.out _ _ (⟨H5.out.kc, H5.out.cells mz1⟩) (fun hh3 => ?_)
 clear hP P hh2
 simp only [Act.put]
 refine tk 1 21 ⟨some 5, _, _, _, _, _⟩ (.bool r.2.1) rfl (by kernel_rfl) (by rfl) hh3 ?_ ?_
 ·intro w' _
  go_simp
 simp only [Act.put, setIfInBounds_toArray, set_cons_zero, set_cons_succ]
 refine tk 0 22 ⟨some 6, _, _, _, _, _⟩ (.int .i64 r.2.2) rfl (by kernel_rfl) (by rfl) hh3 ?_ ?_
 ·intro w' _
  go_simp
 simp only [Act.put, setIfInBounds_toArray, set_cons_zero, set_cons_succ]
 refine wpAnyH_done (by kernel_rfl) ?_ _
 refine NoPanic.normal ?_
 clear hh3
 have h4 := H5.out.box mz0
 go_wp2
 exact fill_ret rfl rfl rfl rfl h4 (H5.out.drop.drop.more (by omega))

set_option maxRecDepth 100000 in
set_option maxHeartbeats 2000000 in
theorem Own.count (h : OwnP w0 K c core n s bx w) (hn : n ≤ 900) (m : Msg) :
  Calls Tryz.prog 110 #[ptr K.k, mv m] w (RetT (countP c s m).1 (OwnP w0 K c core (n + 2) (countP c s m).2 bx)) := by
 unfold countP
 have H0 := Lib.hid (h.add2 (.cells (mcells m) 38) (.cells #[.int .i64 0, .int .i64 0, .int .i64 0, .int .i64 0, .int .i64 0, .int .i64 0, .int .i64 0, .int .i64 0, .int .i64 0, .int .i64 0, .int .i64 0, .int .i64 0, .int .i64 0, .int .i64 0, .int .i64 0] 38))
 clear h
 go_enter Tryz.func110, Tryz.ntmps110
 go_wp2_with fail
 obtain ⟨w2, hw2⟩ : ∃ w2, w2 = (w.alloc (.cells (mcells m) 38)).alloc (.cells #[.int .i64 0, .int .i64 0, .int .i64 0, .int .i64 0, .int .i64 0, .int .i64 0, .int .i64 0, .int .i64 0, .int .i64 0, .int .i64 0, .int .i64 0, .int .i64 0, .int .i64 0, .int .i64 0, .int .i64 0] 38) := ⟨_, rfl⟩
 rw [← hw2] at H0
 change Code.wp _ _ _ _ ((w.alloc (.cells (mcells m) 38)).alloc (.cells #[.int .i64 0, .int .i64 0, .int .i64 0, .int .i64 0, .int .i64 0, .int .i64 0, .int .i64 0, .int .i64 0, .int .i64 0, .int .i64 0, .int .i64 0, .int .i64 0, .int .i64 0, .int .i64 0, .int .i64 0] 38))
 rw [← hw2]
 clear hw2
 refine wp_region_noPanic ?_
 refine wp_region_held_drew (S := (fun w' : World => (∀ o, w'.cell? ⟨K.k, o, none⟩ = (kcells c core K)[o]?) ∧ (∀ o, w'.cell? ⟨w.heap.size, o, none⟩ = (mcells m)[o]?))) (by kernel_rfl) ⟨H0.out.kc, H0.out.cells mz1⟩ (fun hh0 => ?_)
 replace H0 := Lib.hid H0.out.drew
 generalize World.drew w2 = w2 at *
 refine tk 16 0 ⟨some 7, _, _, _, _, _⟩ (ptr K.k) rfl (by kernel_rfl) (by rfl) hh0 ?_ ?_
 ·intro w' _
  go_simp
 simp only [Act.put, setIfInBounds_toArray, set_cons_zero, set_cons_succ]
 refine tk 15 1 ⟨some 8, _, _, _, _, _⟩ (.pointer (some ⟨w.heap.size, 1, none⟩)) rfl (by kernel_rfl) (by rfl) hh0 ?_ ?_
 ·intro w' _
  go_simp
 simp only [Act.put, setIfInBounds_toArray, set_cons_zero, set_cons_succ]
 refine tk 14 2 ⟨some 9, _, _, _, _, _⟩ (.int .i64 m.ln) rfl (by kernel_rfl) (by rfl) hh0 ?_ ?_
 ·rintro w' ⟨-, c0⟩
  go_simp
 simp only [Act.put, setIfInBounds_toArray, set_cons_zero, set_cons_succ]
 refine tk 13 3 ⟨some 10, _, _, _, _, _⟩ (ptr K.k) rfl (by kernel_rfl) (by rfl) hh0 ?_ ?_
 ·intro w' _
  go_simp
 simp only [Act.put, setIfInBounds_toArray, set_cons_zero, set_cons_succ]
 refine tk 12 4 ⟨some 11, _, _, _, _, _⟩ (ptr K.k) rfl (by kernel_rfl) (by rfl) hh0 ?_ ?_
 ·intro w' _
  go_simp
 simp only [Act.put, setIfInBounds_toArray, set_cons_zero, set_cons_succ]
 refine tk 11 5 ⟨some 12, _, _, _, _, _⟩ (.pointer (some ⟨K.k, 15, none⟩)) rfl (by kernel_rfl) (by rfl) hh0 ?_ ?_
 ·intro w' _
  go_simp
 simp only [Act.put, setIfInBounds_toArray, set_cons_zero, set_cons_succ]
 refine tk 10 6 ⟨some 13, _, _, _, _, _⟩ (ptr K.f) rfl (by kernel_rfl) (by rfl) hh0 ?_ ?_
 ·rintro w' ⟨c0, -⟩
  go_simp
 simp only [Act.put, setIfInBounds_toArray, set_cons_zero, set_cons_succ]
 refine tk 9 7 ⟨some 14, _, _, _, _, _⟩ (.pointer (some ⟨w.heap.size, 1, none⟩)) rfl (by kernel_rfl) (by rfl) hh0 ?_ ?_
 ·intro w' _
  go_simp
 simp only [Act.put, setIfInBounds_toArray, set_cons_zero, set_cons_succ]
 refine tk 8 8 ⟨some 15, _, _, _, _, _⟩ (.int .i64 m.ln) rfl (by kernel_rfl) (by rfl) hh0 ?_ ?_
 ·rintro w' ⟨-, c0⟩
  go_simp
 simp only [Act.put, setIfInBounds_toArray, set_cons_zero, set_cons_succ]
 refine rd 7 9 ⟨some 16, _, _, _, _, _⟩ rfl (by kernel_rfl) (fun P hP => ?_)
 go_simp
 refine (H0.out.ack hn m.ln).mono ?_
 rintro e w3 ⟨rfl, ho⟩
 have H3 := Lib.hid ho
 clear ho
 show P _ _
 refine hP.out _ _ (⟨H3.out.kc, H3.out.cells mz1⟩) (fun hh1 => ?_)
 clear hP P hh0
 generalize Mh.chg s.F m.ln Mh.ackF = r at *
 obtain ⟨er, F⟩ := r
 refine rd 6 10 ⟨some 17, _, _, _, _, _⟩ rfl (by kernel_rfl) (fun P hP => ?_)
 go_simp
 refine (H3.out.came m.ln er).mono ?_
 rintro e w4 ⟨rfl, ho⟩
 have H4 := Lib.hid ho
 clear ho
 show P _ _
 refine hP.out _ _ (⟨H4.out.kc, H4.out.cells mz1⟩) (fun hh2 => ?_)
 clear hP P hh1
 generalize cameP c { s with F := F } m.ln er = r at *
 obtain ⟨r, s2⟩ := r
 refine tk 5 11 ⟨some 18, _, _, _, _, _⟩ (mv r.1) rfl (by kernel_rfl) (by rfl) hh2 ?_ ?_
 ·intro w' _
  go_simp
 simp only [Act.put, setIfInBounds_toArray, set_cons_zero, set_cons_succ]
 refine tk 4 12 ⟨some 19, _, _, _, _, _⟩ (.bool r.2.1) rfl (by kernel_rfl) (by rfl) hh2 ?_ ?_
 ·intro w' _
  go_simp
 simp only [Act.put, setIfInBounds_toArray, set_cons_zero, set_cons_succ]
 refine tk 3 13 ⟨some 20, _, _, _, _, _⟩ (.int .i64 r.2.2) rfl (by kernel_rfl) (by rfl) hh2 ?_ ?_
 ·intro w' _
  go_simp
 simp only [Act.put, setIfInBounds_toArray, set_cons_zero, set_cons_succ]
 refine rd 2 14 ⟨none, _, _, _, _, _⟩ rfl (by kernel_rfl) (fun P hP => ?_)
 rw [if_pos (by rfl)]
 refine wp_store_row 38 (.tmp 4) (.tmp 18) rfl (w.heap.size + 1) (mcells r.1) rfl rfl 38 #[.int .i64 0, .int .i64 0, .int .i64 0, .int .i64 0, .int .i64 0, .int .i64 0, .int .i64 0, .int .i64 0, .int .i64 0, .int .i64 0, .int .i64 0, .int .i64 0, .int .i64 0, .int .i64 0, .int .i64 0] (H4.out.box mz0) (by kernel_rfl) rfl (by kernel_rfl) ?_
 have H5 := Lib.hid (H4.out.setRow (cs' := mcells r.1))
 refine hP.out _ _ (⟨H5.out.kc, H5.out.cells mz1⟩) (fun hh3 => ?_)
 clear hP P hh2
 simp only [Act.put]
 refine tk 1 15 ⟨some 5, _, _, _, _, _⟩ (.bool r.2.1) rfl (by kernel_rfl) (by rfl) hh3 ?_ ?_
 ·intro w' _
  go_simp
 simp only [Act.put, setIfInBounds_toArray, set_cons_zero, set_cons_succ]
 refine tk 0 16 ⟨some 6, _, _, _, _, _⟩ (.int .i64 r.2.2) rfl (by kernel_rfl) (by rfl) hh3 ?_ ?_
 ·intro w' _
  go_simp
 simp only [Act.put, setIfInBounds_toArray, set_cons_zero, set_cons_succ]
 refine wpAnyH_done (by kernel_rfl) ?_ _
 refine NoPanic.normal ?_
 clear hh3
 have h4 := H5.out.box mz0
 go_wp2
 exact count_ret rfl rfl rfl rfl h4 (H5.out.drop.drop.more (by omega))

set_option maxRecDepth 100000 in
set_option maxHeartbeats 2000000 in
theorem Own.tgrant (h : OwnP w0 K c core n s bx w) (m : Msg) :
  Calls Tryz.prog 109 #[ptr K.k, mv m] w (RetT (grantP c s m).1 (OwnP w0 K c core (n + 2) (grantP c s m).2 bx)) := by
 unfold grantP
 have H0 := Lib.hid (h.add2 (.cells (mcells m) 38) (.cells #[.int .i64 0, .int .i64 0, .int .i64 0, .int .i64 0, .int .i64 0, .int .i64 0, .int .i64 0, .int .i64 0, .int .i64 0, .int .i64 0, .int .i64 0, .int .i64 0, .int .i64 0, .int .i64 0, .int .i64 0] 38))
 have HL := Lib.hid (H0.out.look m.ln)
 have hx := H0.out.cells mz1
 clear h
 generalize Go.Proofs.YtlfhkjjjocmpbaaGreatDoor.Cc.look c s m.ln = y at *
 generalize there c s m.ln = q at *
 by_cases e1 : y.st = 3
 ·rw [if_neg (show ¬ y.st ≠ 3 from fun q => q e1)]
  have e2 : (y.st != 3) = false := by simpa using e1
  clear e1
  go_enter Tryz.func109, Tryz.ntmps109
  go_wp2_with fail
  refine HL.out.mono ?_
  rintro e w1 ⟨rfl, hb1⟩
  have H1 := Lib.hid ((H0.out.step hb1).add (.cells (Ar.ycells y) 66))
  clear hb1 hx H0
  go_wp2_with fail
  obtain ⟨w2, hw2⟩ : ∃ w2, w2 = w1.alloc (.cells (Ar.ycells y) 66) := ⟨_, rfl⟩
  rw [← hw2] at H1
  change Code.wp _ _ _ _ (w1.alloc (.cells (Ar.ycells y) 66))
  rw [← hw2]
  clear hw2
  refine wp_region_noPanic ?_
  refine wp_region_held_drew (S := (fun w' : World => (∀ o, w'.cell? ⟨K.k, o, none⟩ = (kcells c core K)[o]?) ∧ (∀ o, w'.cell? ⟨w.heap.size, o, none⟩ = (mcells m)[o]?))) (by kernel_rfl) ⟨H1.out.kc, H1.out.cells mz2⟩ (fun hh0 => ?_)
  replace H1 := Lib.hid H1.out.drew
  generalize World.drew w2 = w2 at *
  refine tk 18 0 ⟨some 23, _, _, _, _, _⟩ (ptr K.k) rfl (by kernel_rfl) (by rfl) hh0 ?_ ?_
  ·intro w' _
   go_simp
  simp only [Act.put, setIfInBounds_toArray, set_cons_zero, set_cons_succ]
  refine tk 17 1 ⟨some 24, _, _, _, _, _⟩ (.pointer (some ⟨w.heap.size, 1, none⟩)) rfl (by kernel_rfl) (by rfl) hh0 ?_ ?_
  ·intro w' _
   go_simp
  simp only [Act.put, setIfInBounds_toArray, set_cons_zero, set_cons_succ]
  refine tk 16 2 ⟨some 25, _, _, _, _, _⟩ (.int .i64 m.ln) rfl (by kernel_rfl) (by rfl) hh0 ?_ ?_
  ·rintro w' ⟨-, c0⟩
   go_simp
  simp only [Act.put, setIfInBounds_toArray, set_cons_zero, set_cons_succ]
  refine tk 15 3 ⟨some 26, _, _, _, _, _⟩ (ptr K.k) rfl (by kernel_rfl) (by rfl) hh0 ?_ ?_
  ·intro w' _
   go_simp
  simp only [Act.put, setIfInBounds_toArray, set_cons_zero, set_cons_succ]
  refine tk 14 4 ⟨some 27, _, _, _, _, _⟩ (ptr K.k) rfl (by kernel_rfl) (by rfl) hh0 ?_ ?_
  ·intro w' _
   go_simp
  simp only [Act.put, setIfInBounds_toArray, set_cons_zero, set_cons_succ]
  refine tk 13 5 ⟨some 28, _, _, _, _, _⟩ (.pointer (some ⟨K.k, 15, none⟩)) rfl (by kernel_rfl) (by rfl) hh0 ?_ ?_
  ·intro w' _
   go_simp
  simp only [Act.put, setIfInBounds_toArray, set_cons_zero, set_cons_succ]
  refine tk 12 6 ⟨some 29, _, _, _, _, _⟩ (ptr K.f) rfl (by kernel_rfl) (by rfl) hh0 ?_ ?_
  ·rintro w' ⟨c0, -⟩
   go_simp
  simp only [Act.put, setIfInBounds_toArray, set_cons_zero, set_cons_succ]
  refine tk 11 7 ⟨some 30, _, _, _, _, _⟩ (.pointer (some ⟨w.heap.size, 1, none⟩)) rfl (by kernel_rfl) (by rfl) hh0 ?_ ?_
  ·intro w' _
   go_simp
  simp only [Act.put, setIfInBounds_toArray, set_cons_zero, set_cons_succ]
  refine tk 10 8 ⟨some 31, _, _, _, _, _⟩ (.int .i64 m.ln) rfl (by kernel_rfl) (by rfl) hh0 ?_ ?_
  ·rintro w' ⟨-, c0⟩
   go_simp
  simp only [Act.put, setIfInBounds_toArray, set_cons_zero, set_cons_succ]
  refine tk 9 9 ⟨some 32, _, _, _, _, _⟩ (.pointer (some ⟨w.heap.size, 5, none⟩)) rfl (by kernel_rfl) (by rfl) hh0 ?_ ?_
  ·intro w' _
   go_simp
  simp only [Act.put, setIfInBounds_toArray, set_cons_zero, set_cons_succ]
  refine tk 8 10 ⟨some 33, _, _, _, _, _⟩ (.int .i64 m.ac) rfl (by kernel_rfl) (by rfl) hh0 ?_ ?_
  ·rintro w' ⟨-, c0⟩
   go_simp
  simp only [Act.put, setIfInBounds_toArray, set_cons_zero, set_cons_succ]
  refine rd 7 11 ⟨some 34, _, _, _, _, _⟩ rfl (by kernel_rfl) (fun P hP => ?_)
  go_simp
  refine (H1.out.grant m.ln m.ac).mono ?_
  rintro e w3 ⟨rfl, ho⟩
  have H3 := Lib.hid ho
  clear ho
  show P _ _
  refine hP.out _ _ (⟨H3.out.kc, H3.out.cells mz2⟩) (fun hh1 => ?_)
  clear hP P hh0
  generalize Mh.chg s.F m.ln (Mh.grantF m.ac) = r at *
  obtain ⟨er, F⟩ := r
  refine rd 6 12 ⟨some 35, _, _, _, _, _⟩ rfl (by kernel_rfl) (fun P hP => ?_)
  go_simp
  refine (H3.out.came m.ln er).mono ?_
  rintro e w4 ⟨rfl, ho⟩
  have H4 := Lib.hid ho.swap
  clear ho
  show P _ _
  refine hP.out _ _ (⟨H4.out.kc, H4.out.cells mz2⟩) (fun hh2 => ?_)
  clear hP P hh1
  generalize cameP c { s with F := F } m.ln er = r at *
  obtain ⟨r, s2⟩ := r
  refine tk 5 13 ⟨some 36, _, _, _, _, _⟩ (mv r.1) rfl (by kernel_rfl) (by rfl) hh2 ?_ ?_
  ·intro w' _
   go_simp
  simp only [Act.put, setIfInBounds_toArray, set_cons_zero, set_cons_succ]
  refine tk 4 14 ⟨some 37, _, _, _, _, _⟩ (.bool r.2.1) rfl (by kernel_rfl) (by rfl) hh2 ?_ ?_
  ·intro w' _
   go_simp
  simp only [Act.put, setIfInBounds_toArray, set_cons_zero, set_cons_succ]
  refine tk 3 15 ⟨some 38, _, _, _, _, _⟩ (.int .i64 r.2.2) rfl (by kernel_rfl) (by rfl) hh2 ?_ ?_
  ·intro w' _
   go_simp
  simp only [Act.put, setIfInBounds_toArray, set_cons_zero, set_cons_succ]
  refine rd 2 16 ⟨none, _, _, _, _, _⟩ rfl (by kernel_rfl) (fun P hP => ?_)
  rw [if_pos (by rfl)]
  refine wp_store_row 38 (.tmp 4) (.tmp 36) rfl (w.heap.size + 1) (mcells r.1) rfl rfl 38 #[.int .i64 0, .int .i64 0, .int .i64 0, .int .i64 0, .int .i64 0, .int .i64 0, .int .i64 0, .int .i64 0, .int .i64 0, .int .i64 0, .int .i64 0, .int .i64 0, .int .i64 0, .int .i64 0, .int .i64 0] (H4.out.box mz0) (by kernel_rfl) rfl (by kernel_rfl) ?_
  have H5 := Lib.hid (H4.out.setRow (cs' := mcells r.1))
  refine hP.out _ _ (⟨H5.out.kc, H5.out.cells mz2⟩) (fun hh3 => ?_)
  clear hP P hh2
  simp only [Act.put]
  refine tk 1 17 ⟨some 5, _, _, _, _, _⟩ (.bool r.2.1) rfl (by kernel_rfl) (by rfl) hh3 ?_ ?_
  ·intro w' _
   go_simp
  simp only [Act.put, setIfInBounds_toArray, set_cons_zero, set_cons_succ]
  refine tk 0 18 ⟨some 6, _, _, _, _, _⟩ (.int .i64 r.2.2) rfl (by kernel_rfl) (by rfl) hh3 ?_ ?_
  ·intro w' _
   go_simp
  simp only [Act.put, setIfInBounds_toArray, set_cons_zero, set_cons_succ]
  refine wpAnyH_done (by kernel_rfl) ?_ _
  refine NoPanic.normal ?_
  clear hh3
  have h4 := H5.out.box mz0
  go_wp2
  exact grant_ret rfl rfl rfl rfl h4 (H5.out.drop.drop.drop.more (by omega))
 ·rw [if_pos e1]
  have e2 : (y.st != 3) = true := by simpa using e1
  clear e1
  go_enter Tryz.func109, Tryz.ntmps109
  go_wp2_with fail
  refine HL.out.mono ?_
  rintro e w1 ⟨rfl, hb1⟩
  have H1 := Lib.hid ((H0.out.step hb1).add (.cells (Ar.ycells y) 66)).swap
  clear hb1 hx H0
  go_wp2_with fail
  refine (noEntry_any _).mono ?_
  rintro e w3 ⟨rfl, hb3⟩
  have H3 := Lib.hid (H1.out.step hb3)
  have h4 := H3.out.box mz0
  clear hb3
  go_wp2_with ((with_reducible refine wpList_store_row (o := ⟨none, _, _, _, _, _⟩) rfl 38 (.tmp 4) (.tmp 20) rfl (w.heap.size + 1) (mcells m0) ?sx ?sy 38 ?old ?sg ?si ?so ?s1 ?_); (case sx => rfl); (case sy => rfl); (case old => exact #[.int .i64 0, .int .i64 0, .int .i64 0, .int .i64 0, .int .i64 0, .int .i64 0, .int .i64 0, .int .i64 0, .int .i64 0, .int .i64 0, .int .i64 0, .int .i64 0, .int .i64 0, .int .i64 0, .int .i64 0]); (case sg => exact h4); (case si => kernel_rfl); (case so => rfl); (case s1 => kernel_rfl))
  exact grant_ret (r := (m0, false, 7)) rfl rfl rfl rfl (setRow_heap _ _ _ _ _ _ h4) (H3.out.setRow.drop.drop.drop.more (by omega))

set_option maxRecDepth 100000 in
set_option maxHeartbeats 2000000 in
theorem Own.tdrop (h : OwnP w0 K c core n s bx w) (m : Msg) :
  Calls Tryz.prog 111 #[ptr K.k, mv m] w (RetT (dropP s m).1 (OwnP w0 K c core n (dropP s m).2 bx)) := by
 unfold dropP
 have H0 := Lib.hid (h.add2 (.cells (mcells m) 38) (.cells #[.int .i64 0, .int .i64 0, .int .i64 0, .int .i64 0, .int .i64 0, .int .i64 0, .int .i64 0, .int .i64 0, .int .i64 0, .int .i64 0, .int .i64 0, .int .i64 0, .int .i64 0, .int .i64 0, .int .i64 0] 38))
 have HD := Lib.hid (fun w1 bx (h : OwnP w0 K c core n s bx w1) => h.dropL m.ln)
 have hx := H0.out.cells mz1
 have hk := H0.out.kc
 clear h
 generalize Wb.dropP s.B m.ln = r at *
 obtain ⟨er, B⟩ := r
 dsimp only
 have he : (er = 0 ∧ (er != 0) = false) ∨ (er ≠ 0 ∧ (er != 0) = true) := by
  by_cases e : er = 0
  ·exact .inl ⟨e, by simpa using e⟩
  ·exact .inr ⟨e, by simpa using e⟩
 rcases he with ⟨e1, e2⟩ | ⟨e1, e2⟩
 ·rw [if_neg (show ¬ er ≠ 0 from fun q => q e1)]
  clear e1
  go_enter Tryz.func111, Tryz.ntmps111
  go_wp2_with fail
  go_region_held3 (fun w' => (∀ o, w'.cell? ⟨K.k, o, none⟩ = (kcells c core K)[o]?) ∧ (∀ o, w'.cell? ⟨w.heap.size, o, none⟩ = (mcells m)[o]?))
   (first | exact ⟨H1.out.kc, H1.out.cells mz1⟩ | exact ⟨hk, hx⟩ | go_keep)
   (first
    | (go_at_call 145; refine (HD.out _ _ (by first | exact H0.out | exact H0.out.drew)).mono ?_; rintro e w1 ⟨rfl, ho⟩; have H1 := Lib.hid ho; clear ho))
  clear hk hx H0
  go_wp2_with fail
  refine (nothing_any _).mono ?_
  rintro e w3 ⟨rfl, hb3⟩
  have H3 := Lib.hid (H1.out.step hb3)
  have h4 := H3.out.box mz0
  clear hb3
  go_wp2_with ((with_reducible refine wpList_store_row (o := ⟨none, _, _, _, _, _⟩) rfl 38 (.tmp 4) (.tmp 20) rfl (w.heap.size + 1) (mcells m0) ?sx ?sy 38 ?old ?sg ?si ?so ?s1 ?_); (case sx => rfl); (case sy => rfl); (case old => exact #[.int .i64 0, .int .i64 0, .int .i64 0, .int .i64 0, .int .i64 0, .int .i64 0, .int .i64 0, .int .i64 0, .int .i64 0, .int .i64 0, .int .i64 0, .int .i64 0, .int .i64 0, .int .i64 0, .int .i64 0]); (case sg => exact h4); (case si => kernel_rfl); (case so => rfl); (case s1 => kernel_rfl))
  exact drop_ret (r := (m0, false, 0)) rfl rfl rfl rfl (setRow_heap _ _ _ _ _ _ h4) H3.out.setRow.drop.drop
 ·rw [if_pos e1]
  clear e1
  go_enter Tryz.func111, Tryz.ntmps111
  go_wp2_with fail
  go_region_held3 (fun w' => (∀ o, w'.cell? ⟨K.k, o, none⟩ = (kcells c core K)[o]?) ∧ (∀ o, w'.cell? ⟨w.heap.size, o, none⟩ = (mcells m)[o]?))
   (first | exact ⟨H1.out.kc, H1.out.cells mz1⟩ | exact ⟨hk, hx⟩ | go_keep)
   (first
    | (go_at_call 145; refine (HD.out _ _ (by first | exact H0.out | exact H0.out.drew)).mono ?_; rintro e w1 ⟨rfl, ho⟩; have H1 := Lib.hid ho; clear ho))
  clear hk hx H0
  go_wp2_with fail
  refine (noEntry_any _).mono ?_
  rintro e w3 ⟨rfl, hb3⟩
  have H3 := Lib.hid (H1.out.step hb3)
  have h4 := H3.out.box mz0
  clear hb3
  go_wp2_with ((with_reducible refine wpList_store_row (o := ⟨none, _, _, _, _, _⟩) rfl 38 (.tmp 4) (.tmp 16) rfl (w.heap.size + 1) (mcells m0) ?sx ?sy 38 ?old ?sg ?si ?so ?s1 ?_); (case sx => rfl); (case sy => rfl); (case old => exact #[.int .i64 0, .int .i64 0, .int .i64 0, .int .i64 0, .int .i64 0, .int .i64 0, .int .i64 0, .int .i64 0, .int .i64 0, .int .i64 0, .int .i64 0, .int .i64 0, .int .i64 0, .int .i64 0, .int .i64 0]); (case sg => exact h4); (case si => kernel_rfl); (case so => rfl); (case s1 => kernel_rfl))
  exact drop_ret (r := (m0, false, 7)) rfl rfl rfl rfl (setRow_heap _ _ _ _ _ _ h4) H3.out.setRow.drop.drop

set_option maxRecDepth 100000 in
set_option maxHeartbeats 2000000 in
theorem Own.forget (h : OwnP w0 K c core n s bx w) (m : Msg) :
  Calls Tryz.prog 107 #[ptr K.k, mv m] w (RetT (forgetP c core s m).1 (OwnP w0 K c core n (forgetP c core s m).2 bx)) := by
 unfold forgetP
 have H0 := Lib.hid (h.add2 (.cells (mcells m) 38) (.cells #[.int .i64 0, .int .i64 0, .int .i64 0, .int .i64 0, .int .i64 0, .int .i64 0, .int .i64 0, .int .i64 0, .int .i64 0, .int .i64 0, .int .i64 0, .int .i64 0, .int .i64 0, .int .i64 0, .int .i64 0] 38))
 have HL := Lib.hid (H0.out.look m.ln)
 have hx := H0.out.cells mz1
 clear h
 generalize Go.Proofs.YtlfhkjjjocmpbaaGreatDoor.Cc.look c s m.ln = y at *
 generalize there c s m.ln = q at *
 have HO := Lib.hid (owned_any y)
 rcases Bool.eq_false_or_eq_true (ownsB y) with hy | hy
 ·simp only [hy, if_true]
  rw [hy] at HO
  clear hy
  go_enter Tryz.func107, Tryz.ntmps107
  go_wp2_with fail
  refine HL.out.mono ?_
  rintro e w1 ⟨rfl, hb1⟩
  have H1 := Lib.hid ((H0.out.step hb1).add (.cells (Ar.ycells y) 66)).swap
  clear hb1 hx H0
  go_wp2_with fail
  refine (HO.out _).mono ?_
  rintro e w2 ⟨rfl, hb2⟩
  have H2 := Lib.hid (H1.out.step hb2)
  clear hb2 H1
  go_wp2_with fail
  refine (noEntry_any _).mono ?_
  rintro e w3 ⟨rfl, hb3⟩
  have H3 := Lib.hid (H2.out.step hb3)
  have h4 := H3.out.box mz0
  clear hb3
  go_wp2_with ((with_reducible refine wpList_store_row (o := ⟨none, _, _, _, _, _⟩) rfl 38 (.tmp 4) (.tmp 19) rfl (w.heap.size + 1) (mcells m0) ?sx ?sy 38 ?old ?sg ?si ?so ?s1 ?_); (case sx => rfl); (case sy => rfl); (case old => exact #[.int .i64 0, .int .i64 0, .int .i64 0, .int .i64 0, .int .i64 0, .int .i64 0, .int .i64 0, .int .i64 0, .int .i64 0, .int .i64 0, .int .i64 0, .int .i64 0, .int .i64 0, .int .i64 0, .int .i64 0]); (case sg => exact h4); (case si => kernel_rfl); (case so => rfl); (case s1 => kernel_rfl))
  exact forget_ret (r := (m0, false, 7)) rfl rfl rfl rfl (setRow_heap _ _ _ _ _ _ h4) H3.out.setRow.drop.drop.drop
 ·simp only [hy, Bool.false_eq_true, if_false]
  rw [hy] at HO
  clear hy
  have he : (y.st = 1 ∧ (y.st == 1) = true) ∨ (y.st ≠ 1 ∧ (y.st == 1) = false) := by
   by_cases e : y.st = 1
   ·exact .inl ⟨e, by simpa using e⟩
   ·exact .inr ⟨e, by simpa using e⟩
  rcases he with ⟨e1, e2⟩ | ⟨e1, e2⟩
  ·simp only [e1, if_true]
   clear e1
   go_enter Tryz.func107, Tryz.ntmps107
   go_wp2_with fail
   refine HL.out.mono ?_
   rintro e w1 ⟨rfl, hb1⟩
   have H1 := Lib.hid ((H0.out.step hb1).add (.cells (Ar.ycells y) 66))
   clear hb1 hx H0
   go_wp2_with fail
   refine (HO.out _).mono ?_
   rintro e w2 ⟨rfl, hb2⟩
   have H2 := Lib.hid (H1.out.step hb2)
   have hy2 := H2.out.cells mz0
   clear hb2 H1
   have hk2 := H2.out.kc
   have hx2 := H2.out.cells mz2
   go_wp2_with fail
   go_region_held3 (fun w' => (∀ o, w'.cell? ⟨K.k, o, none⟩ = (kcells c core K)[o]?) ∧ (∀ o, w'.cell? ⟨w.heap.size, o, none⟩ = (mcells m)[o]?))
    (first | exact ⟨H3.out.kc, H3.out.cells mz2⟩ | exact ⟨hk2, hx2⟩ | go_keep)
    (first
     | (go_at_call 50; refine ((by first | exact H2.out | exact H2.out.drew : OwnP w0 K c core n s _ _).set m.ln 0 d0).mono ?_; rintro e w3 ⟨⟨i3, rfl⟩, ho⟩; have H3 := Lib.hid ho; clear ho))
   clear hk2 hx2 hy2
   replace H3 := Lib.hid H3.out.swap
   go_wp2_with fail
   refine wp_region_noPanic ?_
   refine wp_region_held_drew (S := (fun w' : World => (∀ o, w'.cell? ⟨K.k, o, none⟩ = (kcells c core K)[o]?) ∧ (∀ o, w'.cell? ⟨w.heap.size, o, none⟩ = (mcells m)[o]?))) (by kernel_rfl) ⟨H3.out.kc, H3.out.cells mz2⟩ (fun hh0 => ?_)
   replace H3 := Lib.hid H3.out.drew
   generalize World.drew w3 = w3 at *
   refine tk 11 0 ⟨some 33, _, _, _, _, _⟩ (.pointer (some ⟨w.heap.size, 1, none⟩)) rfl (by kernel_rfl) (by rfl) hh0 ?_ ?_
   ·intro w' _
    go_simp
   simp only [Act.put, setIfInBounds_toArray, set_cons_zero, set_cons_succ]
   refine tk 10 1 ⟨some 34, _, _, _, _, _⟩ (.int .i64 m.ln) rfl (by kernel_rfl) (by rfl) hh0 ?_ ?_
   ·rintro w' ⟨-, c0⟩
    go_simp
   simp only [Act.put, setIfInBounds_toArray, set_cons_zero, set_cons_succ]
   refine tk 9 2 ⟨some 35, _, _, _, _, _⟩ (ptr K.k) rfl (by kernel_rfl) (by rfl) hh0 ?_ ?_
   ·intro w' _
    go_simp
   simp only [Act.put, setIfInBounds_toArray, set_cons_zero, set_cons_succ]
   refine tk 8 3 ⟨some 36, _, _, _, _, _⟩ (ptr K.k) rfl (by kernel_rfl) (by rfl) hh0 ?_ ?_
   ·intro w' _
    go_simp
   simp only [Act.put, setIfInBounds_toArray, set_cons_zero, set_cons_succ]
   refine tk 7 4 ⟨some 37, _, _, _, _, _⟩ (.pointer (some ⟨K.k, 13, none⟩)) rfl (by kernel_rfl) (by rfl) hh0 ?_ ?_
   ·intro w' _
    go_simp
   simp only [Act.put, setIfInBounds_toArray, set_cons_zero, set_cons_succ]
   refine tk 6 5 ⟨some 38, _, _, _, _, _⟩ (.int .i64 core) rfl (by kernel_rfl) (by rfl) hh0 ?_ ?_
   ·rintro w' ⟨c0, -⟩
    go_simp
   simp only [Act.put, setIfInBounds_toArray, set_cons_zero, set_cons_succ]
   refine tk 5 6 ⟨some 39, _, _, _, _, _⟩ (.pointer (some ⟨w.heap.size, 4, none⟩)) rfl (by kernel_rfl) (by rfl) hh0 ?_ ?_
   ·intro w' _
    go_simp
   simp only [Act.put, setIfInBounds_toArray, set_cons_zero, set_cons_succ]
   refine tk 4 7 ⟨some 40, _, _, _, _, _⟩ (.int .i64 m.wh) rfl (by kernel_rfl) (by rfl) hh0 ?_ ?_
   ·rintro w' ⟨-, c0⟩
    go_simp
   simp only [Act.put, setIfInBounds_toArray, set_cons_zero, set_cons_succ]
   refine tk 3 8 ⟨some 41, _, _, _, _, _⟩ (.agg #[.int .i64 9, .int .i64 m.ln, .int .i64 core, .int .i64 m.wh, .int .i64 0, .int .i64 0, .int .i64 0, .int .i64 0, .int .i64 0, .int .i64 0, .int .i64 0, .int .i64 0, .int .i64 0, .int .i64 0, .int .i64 0]) rfl (by kernel_rfl) (by rfl) hh0 ?_ ?_
   ·intro w' _
    go_simp
   simp only [Act.put, setIfInBounds_toArray, set_cons_zero, set_cons_succ]
   refine rd 2 9 ⟨none, _, _, _, _, _⟩ rfl (by kernel_rfl) (fun P hP => ?_)
   rw [if_pos (by rfl)]
   refine wp_store_row 38 (.tmp 4) (.tmp 41) rfl (w.heap.size + 1) (#[.int .i64 9, .int .i64 m.ln, .int .i64 core, .int .i64 m.wh, .int .i64 0, .int .i64 0, .int .i64 0, .int .i64 0, .int .i64 0, .int .i64 0, .int .i64 0, .int .i64 0, .int .i64 0, .int .i64 0, .int .i64 0]) rfl rfl 38 #[.int .i64 0, .int .i64 0, .int .i64 0, .int .i64 0, .int .i64 0, .int .i64 0, .int .i64 0, .int .i64 0, .int .i64 0, .int .i64 0, .int .i64 0, .int .i64 0, .int .i64 0, .int .i64 0, .int .i64 0] (H3.out.box mz0) (by kernel_rfl) rfl (by kernel_rfl) ?_
   have H5 := Lib.hid (H3.out.setRow (cs' := #[.int .i64 9, .int .i64 m.ln, .int .i64 core, .int .i64 m.wh, .int .i64 0, .int .i64 0, .int .i64 0, .int .i64 0, .int .i64 0, .int .i64 0, .int .i64 0, .int .i64 0, .int .i64 0, .int .i64 0, .int .i64 0]))
   refine hP.out _ _ (⟨H5.out.kc, H5.out.cells mz2⟩) (fun hh1 => ?_)
   clear hP P hh0
   simp only [Act.put]
   refine tk 1 10 ⟨some 5, _, _, _, _, _⟩ (.bool true) rfl (by kernel_rfl) (by rfl) hh1 ?_ ?_
   ·intro w' _
    go_simp
   simp only [Act.put, setIfInBounds_toArray, set_cons_zero, set_cons_succ]
   refine tk 0 11 ⟨some 6, _, _, _, _, _⟩ (.int .i64 0) rfl (by kernel_rfl) (by rfl) hh1 ?_ ?_
   ·intro w' _
    go_simp
   simp only [Act.put, setIfInBounds_toArray, set_cons_zero, set_cons_succ]
   refine wpAnyH_done (by kernel_rfl) ?_ _
   refine NoPanic.normal ?_
   clear hh1
   have h4 := H5.out.box mz0
   go_wp2
   exact forget_ret (r := (msg 9 m.ln core m.wh 0 0 0 d0, true, 0)) rfl rfl rfl rfl h4 H5.out.drop.drop.drop
  ·simp only [e1, if_false]
   clear e1
   go_enter Tryz.func107, Tryz.ntmps107
   go_wp2_with fail
   refine HL.out.mono ?_
   rintro e w1 ⟨rfl, hb1⟩
   have H1 := Lib.hid ((H0.out.step hb1).add (.cells (Ar.ycells y) 66))
   clear hb1 hx H0
   go_wp2_with fail
   refine (HO.out _).mono ?_
   rintro e w2 ⟨rfl, hb2⟩
   have H2 := Lib.hid (H1.out.step hb2)
   have hy2 := H2.out.cells mz0
   clear hb2 H1
   go_wp2_with fail
   clear hy2
   have H3 := Lib.hid H2.out.swap
   refine wp_region_noPanic ?_
   refine wp_region_held_drew (S := (fun w' : World => (∀ o, w'.cell? ⟨K.k, o, none⟩ = (kcells c core K)[o]?) ∧ (∀ o, w'.cell? ⟨w.heap.size, o, none⟩ = (mcells m)[o]?))) (by kernel_rfl) ⟨H3.out.kc, H3.out.cells mz2⟩ (fun hh0 => ?_)
   replace H3 := Lib.hid H3.out.drew
   generalize World.drew w2 = w2 at *
   refine tk 11 0 ⟨some 33, _, _, _, _, _⟩ (.pointer (some ⟨w.heap.size, 1, none⟩)) rfl (by kernel_rfl) (by rfl) hh0 ?_ ?_
   ·intro w' _
    go_simp
   simp only [Act.put, setIfInBounds_toArray, set_cons_zero, set_cons_succ]
   refine tk 10 1 ⟨some 34, _, _, _, _, _⟩ (.int .i64 m.ln) rfl (by kernel_rfl) (by rfl) hh0 ?_ ?_
   ·rintro w' ⟨-, c0⟩
    go_simp
   simp only [Act.put, setIfInBounds_toArray, set_cons_zero, set_cons_succ]
   refine tk 9 2 ⟨some 35, _, _, _, _, _⟩ (ptr K.k) rfl (by kernel_rfl) (by rfl) hh0 ?_ ?_
   ·intro w' _
    go_simp
   simp only [Act.put, setIfInBounds_toArray, set_cons_zero, set_cons_succ]
   refine tk 8 3 ⟨some 36, _, _, _, _, _⟩ (ptr K.k) rfl (by kernel_rfl) (by rfl) hh0 ?_ ?_
   ·intro w' _
    go_simp
   simp only [Act.put, setIfInBounds_toArray, set_cons_zero, set_cons_succ]
   refine tk 7 4 ⟨some 37, _, _, _, _, _⟩ (.pointer (some ⟨K.k, 13, none⟩)) rfl (by kernel_rfl) (by rfl) hh0 ?_ ?_
   ·intro w' _
    go_simp
   simp only [Act.put, setIfInBounds_toArray, set_cons_zero, set_cons_succ]
   refine tk 6 5 ⟨some 38, _, _, _, _, _⟩ (.int .i64 core) rfl (by kernel_rfl) (by rfl) hh0 ?_ ?_
   ·rintro w' ⟨c0, -⟩
    go_simp
   simp only [Act.put, setIfInBounds_toArray, set_cons_zero, set_cons_succ]
   refine tk 5 6 ⟨some 39, _, _, _, _, _⟩ (.pointer (some ⟨w.heap.size, 4, none⟩)) rfl (by kernel_rfl) (by rfl) hh0 ?_ ?_
   ·intro w' _
    go_simp
   simp only [Act.put, setIfInBounds_toArray, set_cons_zero, set_cons_succ]
   refine tk 4 7 ⟨some 40, _, _, _, _, _⟩ (.int .i64 m.wh) rfl (by kernel_rfl) (by rfl) hh0 ?_ ?_
   ·rintro w' ⟨-, c0⟩
    go_simp
   simp only [Act.put, setIfInBounds_toArray, set_cons_zero, set_cons_succ]
   refine tk 3 8 ⟨some 41, _, _, _, _, _⟩ (.agg #[.int .i64 9, .int .i64 m.ln, .int .i64 core, .int .i64 m.wh, .int .i64 0, .int .i64 0, .int .i64 0, .int .i64 0, .int .i64 0, .int .i64 0, .int .i64 0, .int .i64 0, .int .i64 0, .int .i64 0, .int .i64 0]) rfl (by kernel_rfl) (by rfl) hh0 ?_ ?_
   ·intro w' _
    go_simp
   simp only [Act.put, setIfInBounds_toArray, set_cons_zero, set_cons_succ]
   refine rd 2 9 ⟨none, _, _, _, _, _⟩ rfl (by kernel_rfl) (fun P hP => ?_)
   rw [if_pos (by rfl)]
   refine wp_store_row 38 (.tmp 4) (.tmp 41) rfl (w.heap.size + 1) (#[.int .i64 9, .int .i64 m.ln, .int .i64 core, .int .i64 m.wh, .int .i64 0, .int .i64 0, .int .i64 0, .int .i64 0, .int .i64 0, .int .i64 0, .int .i64 0, .int .i64 0, .int .i64 0, .int .i64 0, .int .i64 0]) rfl rfl 38 #[.int .i64 0, .int .i64 0, .int .i64 0, .int .i64 0, .int .i64 0, .int .i64 0, .int .i64 0, .int .i64 0, .int .i64 0, .int .i64 0, .int .i64 0, .int .i64 0, .int .i64 0, .int .i64 0, .int .i64 0] (H3.out.box mz0) (by kernel_rfl) rfl (by kernel_rfl) ?_
   have H5 := Lib.hid (H3.out.setRow (cs' := #[.int .i64 9, .int .i64 m.ln, .int .i64 core, .int .i64 m.wh, .int .i64 0, .int .i64 0, .int .i64 0, .int .i64 0, .int .i64 0, .int .i64 0, .int .i64 0, .int .i64 0, .int .i64 0, .int .i64 0, .int .i64 0]))
   refine hP.out _ _ (⟨H5.out.kc, H5.out.cells mz2⟩) (fun hh1 => ?_)
   clear hP P hh0
   simp only [Act.put]
   refine tk 1 10 ⟨some 5, _, _, _, _, _⟩ (.bool true) rfl (by kernel_rfl) (by rfl) hh1 ?_ ?_
   ·intro w' _
    go_simp
   simp only [Act.put, setIfInBounds_toArray, set_cons_zero, set_cons_succ]
   refine tk 0 11 ⟨some 6, _, _, _, _, _⟩ (.int .i64 0) rfl (by kernel_rfl) (by rfl) hh1 ?_ ?_
   ·intro w' _
    go_simp
   simp only [Act.put, setIfInBounds_toArray, set_cons_zero, set_cons_succ]
   refine wpAnyH_done (by kernel_rfl) ?_ _
   refine NoPanic.normal ?_
   clear hh1
   have h4 := H5.out.box mz0
   go_wp2
   exact forget_ret (r := (msg 9 m.ln core m.wh 0 0 0 d0, true, 0)) rfl rfl rfl rfl h4 H5.out.drop.drop.drop

end Go.Proofs.YtlfhkjjjocmpbaaGreatDoor.Cc
