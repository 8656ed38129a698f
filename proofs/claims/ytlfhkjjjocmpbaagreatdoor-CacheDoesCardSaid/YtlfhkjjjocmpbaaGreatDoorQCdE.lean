import Derived.Test.YtlfhkjjjocmpbaaGreatDoorSx
import Derived.Test.YtlfhkjjjocmpbaaGreatDoorQCdC
import Derived.Deep.CutBlock
import Derived.Deep.DeepCutAuto

namespace Go.Proofs.YtlfhkjjjocmpbaaGreatDoor.Cc
open Go Go.RowKit
open List (setIfInBounds_toArray set_cons_zero set_cons_succ)

variable {w0 w w' : World} {bx : Bx} {K : Kb} {c : Cfg} {core n : Int} {s : St}
theorem Own.rot2 {ty : Tys} {p q r : Nat × Obj} (h : Own ty w0 K c core n s (p :: q :: r :: bx) w) : Own ty w0 K c core n s (r :: p :: q :: bx) w := h.perm (List.perm_middle (l₁ := [p, q]))
theorem dfwd_ret {wr : World} {r : Rp} {P : World → Prop} {a : Act} {g : Nat} (hp : a.tmps.getD 4 undef = .pointer (some ⟨g, 0, none⟩)) (hq : a.tmps.getD 5 undef = .bool r.2.1) (hn : a.tmps.getD 6 undef = .int .i64 r.2.2) (hd : a.defers = []) (hg : wr.heap[g]? = some (.cells (mcells r.1) 38 (0, 0))) (hb : P wr) :
  bodyPost Tryz.prog Tryz.f81 (RetT r P) Exit.ret a wr :=
 bodyPost_ret (v := .tuple #[mv r.1, a.tmps.getD 5 undef, a.tmps.getD 6 undef]) (Ar.results_cell_three Tryz.results81 _ _ g 38 _ (0, 0) _ hp hg Tryz.underlying38 rfl (by kernel_rfl)) hd ⟨by rw [hq, hn], hb⟩
set_option maxRecDepth 100000 in
set_option maxHeartbeats 8000000 in
theorem dfwd_any (h : OwnD w0 K c core n s bx w) (m : Msg) {ow st : Int} (hks : (m.kd == 5) = true ∧ ow = 4 ∧ st = 0 ∨ (m.kd == 5) = false ∧ ow = 1 ∧ st = 3) {y : Ar.Wy} (hy : look c s m.ln = y) {d : Wd} {er : Int} (hd : (Wb.ansP id s.B m.ln).1 = (d, er)) {r : Rp} {s2 : St}
  (hw : (2 ≤ y.st ∧ r = (⟨7, m.ln, core, m.wh, 1, m.ac, ow, y.wd.w0, y.wd.w1, y.wd.w2, y.wd.w3, y.wd.w4, y.wd.w5, y.wd.w6, y.wd.w7⟩, true, 0) ∧ s2 = setA c s m.ln st y.wd) ∨ (¬ 2 ≤ y.st ∧ ((er != 0) = true ∧ r = (m0, false, 7) ∧ s2 = s ∨ (er != 0) = false ∧ r = (⟨7, m.ln, core, m.wh, 1, m.ac, ow, d.w0, d.w1, d.w2, d.w3, d.w4, d.w5, d.w6, d.w7⟩, true, 0) ∧ ((m.kd == 5) = false ∧ s2 = s ∨ (m.kd == 5) = true ∧ s2 = { s with B := (Wb.ansP Wb.gone s.B m.ln).2 })))) :
  Calls Tryz.prog 81 #[ptr K.k, mv m] w (RetT r (OwnD w0 K c core n s2 bx)) := by
 have H0 := Lib.hid (h.add2 (.cells (mcells m) 38) (.cells #[.int .i64 0, .int .i64 0, .int .i64 0, .int .i64 0, .int .i64 0, .int .i64 0, .int .i64 0, .int .i64 0, .int .i64 0, .int .i64 0, .int .i64 0, .int .i64 0, .int .i64 0, .int .i64 0, .int .i64 0] 38))
 have HFd := Lib.hid (fun w1 bx (h : OwnD w0 K c core n s bx w1) => h.dfind m.ln)
 rw [hy] at HFd
 have HSh := Lib.hid (fun w1 bx (h : OwnD w0 K c core n s bx w1) => h.dshare m.ln)
 rw [hd] at HSh
 have HW := Lib.hid hw
 have HKS := Lib.hid hks
 generalize there c s m.ln = yq at *
 generalize (Ar.fnd c s.A m.ln).2.1 = yi at *
 clear h hy hd hw hks
 go_enter Tryz.func81, Tryz.ntmps81
 go_upto_region 1 with fail
 obtain ⟨w1, hw1⟩ : ∃ w1, w1 = (w.alloc (.cells (mcells m) 38)).alloc (.cells #[.int .i64 0, .int .i64 0, .int .i64 0, .int .i64 0, .int .i64 0, .int .i64 0, .int .i64 0, .int .i64 0, .int .i64 0, .int .i64 0, .int .i64 0, .int .i64 0, .int .i64 0, .int .i64 0, .int .i64 0] 38) := ⟨_, rfl⟩
 rw [← hw1] at H0
 have H1 := H0
 change Code.wp _ _ _ _ ((w.alloc (.cells (mcells m) 38)).alloc (.cells #[.int .i64 0, .int .i64 0, .int .i64 0, .int .i64 0, .int .i64 0, .int .i64 0, .int .i64 0, .int .i64 0, .int .i64 0, .int .i64 0, .int .i64 0, .int .i64 0, .int .i64 0, .int .i64 0, .int .i64 0] 38))
 rw [← hw1]
 clear hw1 H0
 refine wp_region_noPanic ?_
 refine wp_region_held_drew (S := (fun w' : World => (∀ o, w'.cell? ⟨K.k, o, none⟩ = (kcells c core K)[o]?) ∧ (∀ o, w'.cell? ⟨w.heap.size, o, none⟩ = (mcells m)[o]?))) (by kernel_rfl) ⟨H1.out.kc, H1.out.cells mz1⟩ (fun hh0 => ?_)
 replace H1 := Lib.hid H1.out.drew
 generalize World.drew w1 = w1 at *
 refine tk 12 0 ⟨some 14, _, _, _, _, _⟩ (.pointer (some ⟨w.heap.size, 1, none⟩)) rfl (by kernel_rfl) (by rfl) hh0 ?_ ?_
 ·intro w' _
  go_simp
 simp only [Act.put, setIfInBounds_toArray, set_cons_zero, set_cons_succ]
 refine tk 11 1 ⟨some 15, _, _, _, _, _⟩ (.int .i64 m.ln) rfl (by kernel_rfl) (by rfl) hh0 ?_ ?_
 ·rintro w' ⟨-, c0⟩
  go_simp
 simp only [Act.put, setIfInBounds_toArray, set_cons_zero, set_cons_succ]
 refine tk 10 2 ⟨some 16, _, _, _, _, _⟩ (ptr K.k) rfl (by kernel_rfl) (by rfl) hh0 ?_ ?_
 ·intro w' _
  go_simp
 simp only [Act.put, setIfInBounds_toArray, set_cons_zero, set_cons_succ]
 refine tk 9 3 ⟨some 17, _, _, _, _, _⟩ (ptr K.k) rfl (by kernel_rfl) (by rfl) hh0 ?_ ?_
 ·intro w' _
  go_simp
 simp only [Act.put, setIfInBounds_toArray, set_cons_zero, set_cons_succ]
 refine tk 8 4 ⟨some 18, _, _, _, _, _⟩ (.pointer (some ⟨K.k, 13, none⟩)) rfl (by kernel_rfl) (by rfl) hh0 ?_ ?_
 ·intro w' _
  go_simp
 simp only [Act.put, setIfInBounds_toArray, set_cons_zero, set_cons_succ]
 refine tk 7 5 ⟨some 19, _, _, _, _, _⟩ (.int .i64 core) rfl (by kernel_rfl) (by rfl) hh0 ?_ ?_
 ·rintro w' ⟨c0, -⟩
  go_simp
 simp only [Act.put, setIfInBounds_toArray, set_cons_zero, set_cons_succ]
 refine tk 6 6 ⟨some 20, _, _, _, _, _⟩ (.pointer (some ⟨w.heap.size, 4, none⟩)) rfl (by kernel_rfl) (by rfl) hh0 ?_ ?_
 ·intro w' _
  go_simp
 simp only [Act.put, setIfInBounds_toArray, set_cons_zero, set_cons_succ]
 refine tk 5 7 ⟨some 21, _, _, _, _, _⟩ (.int .i64 m.wh) rfl (by kernel_rfl) (by rfl) hh0 ?_ ?_
 ·rintro w' ⟨-, c0⟩
  go_simp
 simp only [Act.put, setIfInBounds_toArray, set_cons_zero, set_cons_succ]
 refine tk 4 8 ⟨some 22, _, _, _, _, _⟩ (.pointer (some ⟨w.heap.size, 5, none⟩)) rfl (by kernel_rfl) (by rfl) hh0 ?_ ?_
 ·intro w' _
  go_simp
 simp only [Act.put, setIfInBounds_toArray, set_cons_zero, set_cons_succ]
 refine tk 3 9 ⟨some 23, _, _, _, _, _⟩ (.int .i64 m.ac) rfl (by kernel_rfl) (by rfl) hh0 ?_ ?_
 ·rintro w' ⟨-, c0⟩
  go_simp
 simp only [Act.put, setIfInBounds_toArray, set_cons_zero, set_cons_succ]
 refine tk 2 10 ⟨some 24, _, _, _, _, _⟩ (.agg (#[.int .i64 7, .int .i64 m.ln, .int .i64 core, .int .i64 m.wh, .int .i64 1, .int .i64 m.ac, .int .i64 1, .int .i64 0, .int .i64 0, .int .i64 0, .int .i64 0, .int .i64 0, .int .i64 0, .int .i64 0, .int .i64 0])) rfl (by kernel_rfl) (by rfl) hh0 ?_ ?_
 ·intro w' _
  go_simp
 simp only [Act.put, setIfInBounds_toArray, set_cons_zero, set_cons_succ]
 refine rd 1 11 ⟨some 7, _, _, _, _, _⟩ rfl (by kernel_rfl) (fun P hP => ?_)
 go_simp
 have H1a := Lib.hid (H1.out.add (.cells #[.int .i64 0, .int .i64 0, .int .i64 0, .int .i64 0, .int .i64 0, .int .i64 0, .int .i64 0, .int .i64 0, .int .i64 0, .int .i64 0, .int .i64 0, .int .i64 0, .int .i64 0, .int .i64 0, .int .i64 0] 38))
 show P _ _
 refine hP.out _ _ (⟨H1a.out.kc, H1a.out.cells mz2⟩) (fun hh1 => ?_)
 clear hP P hh0
 try simp only [Act.put, setIfInBounds_toArray, set_cons_zero, set_cons_succ]
 refine rd 0 12 ⟨none, _, _, _, _, _⟩ rfl (by kernel_rfl) (fun P hP => ?_)
 rw [if_pos (by rfl)]
 refine wp_store_row 38 (.tmp 7) (.tmp 24) rfl (w1.heap.size) (#[.int .i64 7, .int .i64 m.ln, .int .i64 core, .int .i64 m.wh, .int .i64 1, .int .i64 m.ac, .int .i64 1, .int .i64 0, .int .i64 0, .int .i64 0, .int .i64 0, .int .i64 0, .int .i64 0, .int .i64 0, .int .i64 0]) rfl rfl 38 (#[.int .i64 0, .int .i64 0, .int .i64 0, .int .i64 0, .int .i64 0, .int .i64 0, .int .i64 0, .int .i64 0, .int .i64 0, .int .i64 0, .int .i64 0, .int .i64 0, .int .i64 0, .int .i64 0, .int .i64 0]) (H1a.out.box mz0) (by kernel_rfl) rfl (by kernel_rfl) ?_
 have H1as := Lib.hid (H1a.out.setRow (cs' := #[.int .i64 7, .int .i64 m.ln, .int .i64 core, .int .i64 m.wh, .int .i64 1, .int .i64 m.ac, .int .i64 1, .int .i64 0, .int .i64 0, .int .i64 0, .int .i64 0, .int .i64 0, .int .i64 0, .int .i64 0, .int .i64 0]))
 refine hP.out _ _ (⟨H1as.out.kc, H1as.out.cells mz2⟩) (fun hh2 => ?_)
 clear hP P hh1
 simp only [Act.put]
 refine wpAnyH_done (by kernel_rfl) ?_ _
 refine NoPanic.normal ?_
 clear hh2
 have H2 := H1as
 clear H1 H1a
 generalize World.setRow (World.alloc w1 _) _ _ = w2 at *
 generalize w1.heap.size = mx at *
 have hm2 := H2.out.cells mz2
 go_upto_if 27 with fail
 go_cut [8] (fun s8 wx => s8 = .int .i64 st ∧ OwnD w0 K c core n s ((mx, .cells (#[.int .i64 7, .int .i64 m.ln, .int .i64 core, .int .i64 m.wh, .int .i64 1, .int .i64 m.ac, .int .i64 ow, .int .i64 0, .int .i64 0, .int .i64 0, .int .i64 0, .int .i64 0, .int .i64 0, .int .i64 0, .int .i64 0]) 38) :: (w.heap.size + 1, .cells (#[.int .i64 0, .int .i64 0, .int .i64 0, .int .i64 0, .int .i64 0, .int .i64 0, .int .i64 0, .int .i64 0, .int .i64 0, .int .i64 0, .int .i64 0, .int .i64 0, .int .i64 0, .int .i64 0, .int .i64 0]) 38) :: (w.heap.size, .cells (mcells m) 38) :: bx) wx)
 case first =>
  rcases HKS.out with ⟨k5, rfl, rfl⟩ | ⟨k5, rfl, rfl⟩
  ·go_wp2_with (first
    | ((with_reducible refine wpList_store_box (op := ⟨none, _, _, _, _, _⟩) rfl 3 (.tmp 28) _ rfl mx 6 (.int .i64 4) ?sx ?sy (#[.int .i64 7, .int .i64 m.ln, .int .i64 core, .int .i64 m.wh, .int .i64 1, .int .i64 m.ac, .int .i64 1, .int .i64 0, .int .i64 0, .int .i64 0, .int .i64 0, .int .i64 0, .int .i64 0, .int .i64 0, .int .i64 0]) 38 ?sg ?si ?sf ?s1 (#[.int .i64 7, .int .i64 m.ln, .int .i64 core, .int .i64 m.wh, .int .i64 1, .int .i64 m.ac, .int .i64 4, .int .i64 0, .int .i64 0, .int .i64 0, .int .i64 0, .int .i64 0, .int .i64 0, .int .i64 0, .int .i64 0]) ?sn ?_); (case sx => rfl); (case sy => rfl); (case sg => exact H2.out.box mz0); (case si => kernel_rfl); (case sf => exact Nat.le_of_ble_eq_true rfl); (case s1 => kernel_rfl); (case sn => rfl); intro w3 gg rr kk; have H3 := Lib.hid (H2.out.turned gg rr kk); clear gg rr kk))
   go_meet
   case rel => exact ⟨rfl, H3.out⟩
  ·go_wp2
   go_meet
   case rel => exact ⟨rfl, H2.out⟩
 case rest =>
  obtain ⟨rfl, h4⟩ := hcut
  have H4 := Lib.hid h4
  clear h4 H2 hm2
  obtain ⟨w4, rfl⟩ : ∃ w4 : World, w4 = wc := ⟨_, rfl⟩
  go_upto_region 6 with fail
  go_cut [9, 10, 11] (fun s9 s10 s11 wx => ∃ my, s9 = .pointer (some ⟨my, 0, none⟩) ∧ s10 = .int .i64 yi ∧ s11 = .bool yq ∧ OwnD w0 K c core n s ((my, .cells (Ar.ycells y) 69) :: (mx, .cells (#[.int .i64 7, .int .i64 m.ln, .int .i64 core, .int .i64 m.wh, .int .i64 1, .int .i64 m.ac, .int .i64 ow, .int .i64 0, .int .i64 0, .int .i64 0, .int .i64 0, .int .i64 0, .int .i64 0, .int .i64 0, .int .i64 0]) 38) :: (w.heap.size + 1, .cells (#[.int .i64 0, .int .i64 0, .int .i64 0, .int .i64 0, .int .i64 0, .int .i64 0, .int .i64 0, .int .i64 0, .int .i64 0, .int .i64 0, .int .i64 0, .int .i64 0, .int .i64 0, .int .i64 0, .int .i64 0]) 38) :: (w.heap.size, .cells (mcells m) 38) :: bx) wx)
  case first =>
   refine wp_region_noPanic ?_
   refine wp_region_held_drew (S := (fun w' : World => (∀ o, w'.cell? ⟨K.k, o, none⟩ = (kcells c core K)[o]?) ∧ (∀ o, w'.cell? ⟨w.heap.size, o, none⟩ = (mcells m)[o]?))) (by kernel_rfl) ⟨H4.out.kc, H4.out.cells mz2⟩ (fun hh0 => ?_)
   replace H4 := Lib.hid H4.out.drew
   generalize World.drew w4 = w4 at *
   refine tk 14 0 ⟨some 30, _, _, _, _, _⟩ (ptr K.k) rfl (by kernel_rfl) (by rfl) hh0 ?_ ?_
   ·intro w' _
    go_simp
   simp only [Act.put, setIfInBounds_toArray, set_cons_zero, set_cons_succ]
   refine tk 13 1 ⟨some 31, _, _, _, _, _⟩ (ptr K.k) rfl (by kernel_rfl) (by rfl) hh0 ?_ ?_
   ·intro w' _
    go_simp
   simp only [Act.put, setIfInBounds_toArray, set_cons_zero, set_cons_succ]
   refine tk 12 2 ⟨some 32, _, _, _, _, _⟩ (.pointer (some ⟨K.k, 14, none⟩)) rfl (by kernel_rfl) (by rfl) hh0 ?_ ?_
   ·intro w' _
    go_simp
   simp only [Act.put, setIfInBounds_toArray, set_cons_zero, set_cons_succ]
   refine tk 11 3 ⟨some 33, _, _, _, _, _⟩ (.pointer (some ⟨K.a, 0, none⟩)) rfl (by kernel_rfl) (by rfl) hh0 ?_ ?_
   ·rintro w' ⟨c0, -⟩
    go_simp
   simp only [Act.put, setIfInBounds_toArray, set_cons_zero, set_cons_succ]
   refine tk 10 4 ⟨some 34, _, _, _, _, _⟩ (.pointer (some ⟨w.heap.size, 1, none⟩)) rfl (by kernel_rfl) (by rfl) hh0 ?_ ?_
   ·intro w' _
    go_simp
   simp only [Act.put, setIfInBounds_toArray, set_cons_zero, set_cons_succ]
   refine tk 9 5 ⟨some 35, _, _, _, _, _⟩ (.int .i64 m.ln) rfl (by kernel_rfl) (by rfl) hh0 ?_ ?_
   ·rintro w' ⟨-, c0⟩
    go_simp
   simp only [Act.put, setIfInBounds_toArray, set_cons_zero, set_cons_succ]
   refine wpAnyH_ready (fuel := 8) (rs := [6, 11]) (by kernel_rfl) (by simp) ?_
   refine AllReadyH.cons (o := ⟨some 36, _, _, _, _, _⟩) rfl (fun P hP => ?_) (AllReadyH.cons (o := ⟨some 9, _, _, _, _, _⟩) rfl (fun P hP => ?_) AllReadyH.nil)
   ·go_simp
    refine (HFd.out _ _ H4.out).mono ?_
    rintro e w5 ⟨rfl, hb5⟩
    have H5 := Lib.hid (H4.out.step hb5)
    clear hb5
    show P _ _
    refine hP.out _ _ (⟨H5.out.kc, H5.out.cells mz2⟩) (fun hh1 => ?_)
    clear hP P hh0
    refine tk 7 7 ⟨some 29, _, _, _, _, _⟩ (.tuple #[.agg (Ar.ycells y), .int .i64 yi, .bool yq]) rfl (by kernel_rfl) (by rfl) hh1 ?_ ?_
    ·intro w' _
     go_simp
    simp only [Act.put, setIfInBounds_toArray, set_cons_zero, set_cons_succ]
    refine tk 6 8 ⟨some 37, _, _, _, _, _⟩ (.agg (Ar.ycells y)) rfl (by kernel_rfl) (by rfl) hh1 ?_ ?_
    ·intro w' _
     go_simp
    simp only [Act.put, setIfInBounds_toArray, set_cons_zero, set_cons_succ]
    refine tk 5 9 ⟨some 38, _, _, _, _, _⟩ (.int .i64 yi) rfl (by kernel_rfl) (by rfl) hh1 ?_ ?_
    ·intro w' _
     go_simp
    simp only [Act.put, setIfInBounds_toArray, set_cons_zero, set_cons_succ]
    refine tk 4 10 ⟨some 39, _, _, _, _, _⟩ (.bool yq) rfl (by kernel_rfl) (by rfl) hh1 ?_ ?_
    ·intro w' _
     go_simp
    simp only [Act.put, setIfInBounds_toArray, set_cons_zero, set_cons_succ]
    refine rd 3 11 ⟨some 9, _, _, _, _, _⟩ rfl (by kernel_rfl) (fun P hP => ?_)
    go_simp
    have H5a := Lib.hid (H5.out.add (.cells #[.int .i64 0, .int .i64 0, .int .i64 0, .int .i64 0, .int .i64 0, .int .i64 0, .int .i64 0, .int .i64 0, .int .i64 0, .int .i64 0, .bool false] 69))
    show P _ _
    refine hP.out _ _ (⟨H5a.out.kc, H5a.out.cells mz3⟩) (fun hh2 => ?_)
    clear hP P hh1
    try simp only [Act.put, setIfInBounds_toArray, set_cons_zero, set_cons_succ]
    refine rd 2 12 ⟨none, _, _, _, _, _⟩ rfl (by kernel_rfl) (fun P hP => ?_)
    rw [if_pos (by rfl)]
    refine wp_store_row 69 (.tmp 9) (.tmp 37) rfl (w5.heap.size) (Ar.ycells y) rfl rfl 69 (#[.int .i64 0, .int .i64 0, .int .i64 0, .int .i64 0, .int .i64 0, .int .i64 0, .int .i64 0, .int .i64 0, .int .i64 0, .int .i64 0, .bool false]) (H5a.out.box mz0) (by kernel_rfl) rfl (by kernel_rfl) ?_
    have H5as := Lib.hid (H5a.out.setRow (cs' := Ar.ycells y))
    refine hP.out _ _ (⟨H5as.out.kc, H5as.out.cells mz3⟩) (fun hh3 => ?_)
    clear hP P hh2
    simp only [Act.put]
    refine tk 1 13 ⟨some 10, _, _, _, _, _⟩ (.int .i64 yi) rfl (by kernel_rfl) (by rfl) hh3 ?_ ?_
    ·intro w' _
     go_simp
    simp only [Act.put, setIfInBounds_toArray, set_cons_zero, set_cons_succ]
    refine tk 0 14 ⟨some 11, _, _, _, _, _⟩ (.bool yq) rfl (by kernel_rfl) (by rfl) hh3 ?_ ?_
    ·intro w' _
     go_simp
    simp only [Act.put, setIfInBounds_toArray, set_cons_zero, set_cons_succ]
    refine wpAnyH_done (by kernel_rfl) ?_ _
    refine NoPanic.normal ?_
    clear hh3
    go_wp2
    go_meet
    case rel => exact ⟨_, rfl, rfl, rfl, H5as.out⟩
   ·go_simp
    have H4a := Lib.hid (H4.out.add (.cells #[.int .i64 0, .int .i64 0, .int .i64 0, .int .i64 0, .int .i64 0, .int .i64 0, .int .i64 0, .int .i64 0, .int .i64 0, .int .i64 0, .bool false] 69))
    show P _ _
    refine hP.out _ _ (⟨H4a.out.kc, H4a.out.cells mz3⟩) (fun hh1 => ?_)
    clear hP P hh0
    try simp only [Act.put, setIfInBounds_toArray, set_cons_zero, set_cons_succ]
    refine rd 7 6 ⟨some 36, _, _, _, _, _⟩ rfl (by kernel_rfl) (fun P hP => ?_)
    go_simp
    refine (HFd.out _ _ H4a.out).mono ?_
    rintro e w5 ⟨rfl, hb5⟩
    have H5 := Lib.hid (H4a.out.step hb5)
    clear hb5
    show P _ _
    refine hP.out _ _ (⟨H5.out.kc, H5.out.cells mz3⟩) (fun hh2 => ?_)
    clear hP P hh1
    refine tk 6 7 ⟨some 29, _, _, _, _, _⟩ (.tuple #[.agg (Ar.ycells y), .int .i64 yi, .bool yq]) rfl (by kernel_rfl) (by rfl) hh2 ?_ ?_
    ·intro w' _
     go_simp
    simp only [Act.put, setIfInBounds_toArray, set_cons_zero, set_cons_succ]
    refine tk 5 8 ⟨some 37, _, _, _, _, _⟩ (.agg (Ar.ycells y)) rfl (by kernel_rfl) (by rfl) hh2 ?_ ?_
    ·intro w' _
     go_simp
    simp only [Act.put, setIfInBounds_toArray, set_cons_zero, set_cons_succ]
    refine tk 4 9 ⟨some 38, _, _, _, _, _⟩ (.int .i64 yi) rfl (by kernel_rfl) (by rfl) hh2 ?_ ?_
    ·intro w' _
     go_simp
    simp only [Act.put, setIfInBounds_toArray, set_cons_zero, set_cons_succ]
    refine tk 3 10 ⟨some 39, _, _, _, _, _⟩ (.bool yq) rfl (by kernel_rfl) (by rfl) hh2 ?_ ?_
    ·intro w' _
     go_simp
    simp only [Act.put, setIfInBounds_toArray, set_cons_zero, set_cons_succ]
    refine rd 2 12 ⟨none, _, _, _, _, _⟩ rfl (by kernel_rfl) (fun P hP => ?_)
    rw [if_pos (by rfl)]
    refine wp_store_row 69 (.tmp 9) (.tmp 37) rfl (w4.heap.size) (Ar.ycells y) rfl rfl 69 (#[.int .i64 0, .int .i64 0, .int .i64 0, .int .i64 0, .int .i64 0, .int .i64 0, .int .i64 0, .int .i64 0, .int .i64 0, .int .i64 0, .bool false]) (H5.out.box mz0) (by kernel_rfl) rfl (by kernel_rfl) ?_
    have H5s := Lib.hid (H5.out.setRow (cs' := Ar.ycells y))
    refine hP.out _ _ (⟨H5s.out.kc, H5s.out.cells mz3⟩) (fun hh3 => ?_)
    clear hP P hh2
    simp only [Act.put]
    refine tk 1 13 ⟨some 10, _, _, _, _, _⟩ (.int .i64 yi) rfl (by kernel_rfl) (by rfl) hh3 ?_ ?_
    ·intro w' _
     go_simp
    simp only [Act.put, setIfInBounds_toArray, set_cons_zero, set_cons_succ]
    refine tk 0 14 ⟨some 11, _, _, _, _, _⟩ (.bool yq) rfl (by kernel_rfl) (by rfl) hh3 ?_ ?_
    ·intro w' _
     go_simp
    simp only [Act.put, setIfInBounds_toArray, set_cons_zero, set_cons_succ]
    refine wpAnyH_done (by kernel_rfl) ?_ _
    refine NoPanic.normal ?_
    clear hh3
    go_wp2
    go_meet
    case rel => exact ⟨_, rfl, rfl, rfl, H5s.out⟩
  case rest =>
   obtain ⟨my, rfl, rfl, rfl, h6⟩ := hcut
   have H6 := Lib.hid h6
   clear h6 H4 HFd
   obtain ⟨w6, rfl⟩ : ∃ w6 : World, w6 = wc := ⟨_, rfl⟩
   have hy6 := H6.out.cells mz0
   have hm6 := H6.out.cells mz3
   rcases HW.out with ⟨hy2, rfl, rfl⟩ | ⟨hy2, hB⟩
   ·have HX := Lib.hid H6.out.swap
    as_aux_lemma =>
    clear H6 HW HKS HSh
    go_wp2_with (first
     | ((with_reducible refine wpList_store_box (op := ⟨none, _, _, _, _, _⟩) rfl 36 (.tmp 45) (.tmp 44) rfl mx 7 (.agg (dcells y.wd)) ?sx ?sy (#[.int .i64 7, .int .i64 m.ln, .int .i64 core, .int .i64 m.wh, .int .i64 1, .int .i64 m.ac, .int .i64 ow, .int .i64 0, .int .i64 0, .int .i64 0, .int .i64 0, .int .i64 0, .int .i64 0, .int .i64 0, .int .i64 0]) 38 ?sg ?si ?sf ?s1 (#[.int .i64 7, .int .i64 m.ln, .int .i64 core, .int .i64 m.wh, .int .i64 1, .int .i64 m.ac, .int .i64 ow, .int .i64 y.wd.w0, .int .i64 y.wd.w1, .int .i64 y.wd.w2, .int .i64 y.wd.w3, .int .i64 y.wd.w4, .int .i64 y.wd.w5, .int .i64 y.wd.w6, .int .i64 y.wd.w7]) ?sn ?_); (case sx => rfl); (case sy => rfl); (case sg => exact HX.out.box mz0); (case si => kernel_rfl); (case sf => exact Nat.le_of_ble_eq_true rfl); (case s1 => kernel_rfl); (case sn => rfl); intro w7 gg rr kk; have H7 := Lib.hid (HX.out.turned gg rr kk); clear gg rr kk))
    clear hy6 hm6 HX
    have hy7 := H7.out.cells mz1
    have hm7 := H7.out.cells mz3
    go_upto_region 9 with fail
    refine wp_region_noPanic ?_
    refine wp_region_held_drew (S := (fun w' : World => (∀ o, w'.cell? ⟨K.k, o, none⟩ = (kcells c core K)[o]?) ∧ (∀ o, w'.cell? ⟨my, o, none⟩ = (Ar.ycells y)[o]?) ∧ (∀ o, w'.cell? ⟨w.heap.size, o, none⟩ = (mcells m)[o]?))) (by kernel_rfl) ⟨H7.out.kc, H7.out.cells mz1, H7.out.cells mz3⟩ (fun hh0 => ?_)
    replace H7 := Lib.hid H7.out.drew
    generalize World.drew w7 = w7 at *
    refine tk 9 0 ⟨some 46, _, _, _, _, _⟩ (ptr K.k) rfl (by kernel_rfl) (by rfl) hh0 ?_ ?_
    ·intro w' _
     go_simp
    simp only [Act.put, setIfInBounds_toArray, set_cons_zero, set_cons_succ]
    refine tk 8 1 ⟨some 47, _, _, _, _, _⟩ (ptr K.k) rfl (by kernel_rfl) (by rfl) hh0 ?_ ?_
    ·intro w' _
     go_simp
    simp only [Act.put, setIfInBounds_toArray, set_cons_zero, set_cons_succ]
    refine tk 7 2 ⟨some 48, _, _, _, _, _⟩ (.pointer (some ⟨K.k, 14, none⟩)) rfl (by kernel_rfl) (by rfl) hh0 ?_ ?_
    ·intro w' _
     go_simp
    simp only [Act.put, setIfInBounds_toArray, set_cons_zero, set_cons_succ]
    refine tk 6 3 ⟨some 49, _, _, _, _, _⟩ (.pointer (some ⟨K.a, 0, none⟩)) rfl (by kernel_rfl) (by rfl) hh0 ?_ ?_
    ·rintro w' ⟨c0, -, -⟩
     go_simp
    simp only [Act.put, setIfInBounds_toArray, set_cons_zero, set_cons_succ]
    refine tk 5 4 ⟨some 50, _, _, _, _, _⟩ (.pointer (some ⟨w.heap.size, 1, none⟩)) rfl (by kernel_rfl) (by rfl) hh0 ?_ ?_
    ·intro w' _
     go_simp
    simp only [Act.put, setIfInBounds_toArray, set_cons_zero, set_cons_succ]
    refine tk 4 5 ⟨some 51, _, _, _, _, _⟩ (.int .i64 m.ln) rfl (by kernel_rfl) (by rfl) hh0 ?_ ?_
    ·rintro w' ⟨-, -, c0⟩
     go_simp
    simp only [Act.put, setIfInBounds_toArray, set_cons_zero, set_cons_succ]
    refine tk 3 6 ⟨some 52, _, _, _, _, _⟩ (.int .i64 st) rfl (by kernel_rfl) (by rfl) hh0 ?_ ?_
    ·intro w' _
     go_simp
    simp only [Act.put, setIfInBounds_toArray, set_cons_zero, set_cons_succ]
    refine tk 2 7 ⟨some 53, _, _, _, _, _⟩ (.pointer (some ⟨my, 2, none⟩)) rfl (by kernel_rfl) (by rfl) hh0 ?_ ?_
    ·intro w' _
     go_simp
    simp only [Act.put, setIfInBounds_toArray, set_cons_zero, set_cons_succ]
    refine tk 1 8 ⟨some 54, _, _, _, _, _⟩ (.agg (dcells y.wd)) rfl (by kernel_rfl) (by rfl) hh0 ?_ ?_
    ·rintro w' ⟨-, c0, -⟩
     go_simp
    simp only [Act.put, setIfInBounds_toArray, set_cons_zero, set_cons_succ]
    refine rd 0 9 ⟨some 55, _, _, _, _, _⟩ rfl (by kernel_rfl) (fun P hP => ?_)
    go_simp
    refine (H7.out.dset m.ln st y.wd).mono ?_
    rintro e w8 ⟨⟨i8, rfl⟩, ho⟩
    have H8 := Lib.hid ho
    clear ho
    show P _ _
    refine hP.out _ _ (⟨H8.out.kc, H8.out.cells mz1, H8.out.cells mz3⟩) (fun hh1 => ?_)
    clear hP P hh0
    refine wpAnyH_done (by kernel_rfl) ?_ _
    refine NoPanic.normal ?_
    clear hh1
    clear H7
    have h4 := H8.out.box mz2
    have h7 := H8.out.box mz0
    go_wp2_with (first
     | ((with_reducible refine wpList_load_row (o := ⟨some 56, _, _, _, _, _⟩) rfl 38 (.tmp 7) rfl (mx) ?lx 38 (#[.int .i64 7, .int .i64 m.ln, .int .i64 core, .int .i64 m.wh, .int .i64 1, .int .i64 m.ac, .int .i64 ow, .int .i64 y.wd.w0, .int .i64 y.wd.w1, .int .i64 y.wd.w2, .int .i64 y.wd.w3, .int .i64 y.wd.w4, .int .i64 y.wd.w5, .int .i64 y.wd.w6, .int .i64 y.wd.w7]) (0, 0) _ ?lg Tryz.underlying38 ?ld ?li ?_); (case lx => rfl); (case lg => exact h7); (case ld => rfl); (case li => kernel_rfl))
     | ((with_reducible refine wpList_store_row (o := ⟨none, _, _, _, _, _⟩) rfl 38 (.tmp 4) (.tmp 56) rfl (w.heap.size + 1) (#[.int .i64 7, .int .i64 m.ln, .int .i64 core, .int .i64 m.wh, .int .i64 1, .int .i64 m.ac, .int .i64 ow, .int .i64 y.wd.w0, .int .i64 y.wd.w1, .int .i64 y.wd.w2, .int .i64 y.wd.w3, .int .i64 y.wd.w4, .int .i64 y.wd.w5, .int .i64 y.wd.w6, .int .i64 y.wd.w7]) ?sx ?sy 38 ?old ?sg ?si ?so ?s1 ?_); (case sx => rfl); (case sy => rfl); (case old => exact #[.int .i64 0, .int .i64 0, .int .i64 0, .int .i64 0, .int .i64 0, .int .i64 0, .int .i64 0, .int .i64 0, .int .i64 0, .int .i64 0, .int .i64 0, .int .i64 0, .int .i64 0, .int .i64 0, .int .i64 0]); (case sg => exact h4); (case si => kernel_rfl); (case so => rfl); (case s1 => kernel_rfl)))
    exact dfwd_ret (r := (⟨7, m.ln, core, m.wh, 1, m.ac, ow, y.wd.w0, y.wd.w1, y.wd.w2, y.wd.w3, y.wd.w4, y.wd.w5, y.wd.w6, y.wd.w7⟩, true, 0)) rfl rfl rfl rfl (setRow_heap _ _ _ _ _ _ h4) H8.out.setRow2.drop.drop.drop.drop
   ·have HB := Lib.hid hB
    clear hB
    go_upto_region 11 with fail
    go_cut [12, 13] (fun s12 s13 wx => ∃ md, s12 = .pointer (some ⟨md, 0, none⟩) ∧ s13 = .int .i64 er ∧ OwnD w0 K c core n s ((md, .cells (dcells d) 36) :: (my, .cells (Ar.ycells y) 69) :: (mx, .cells (#[.int .i64 7, .int .i64 m.ln, .int .i64 core, .int .i64 m.wh, .int .i64 1, .int .i64 m.ac, .int .i64 ow, .int .i64 0, .int .i64 0, .int .i64 0, .int .i64 0, .int .i64 0, .int .i64 0, .int .i64 0, .int .i64 0]) 38) :: (w.heap.size + 1, .cells (#[.int .i64 0, .int .i64 0, .int .i64 0, .int .i64 0, .int .i64 0, .int .i64 0, .int .i64 0, .int .i64 0, .int .i64 0, .int .i64 0, .int .i64 0, .int .i64 0, .int .i64 0, .int .i64 0, .int .i64 0]) 38) :: (w.heap.size, .cells (mcells m) 38) :: bx) wx)
    case first =>
     as_aux_lemma =>
      refine wp_region_noPanic ?_
      refine wp_region_held_drew (S := (fun w' : World => (∀ o, w'.cell? ⟨K.k, o, none⟩ = (kcells c core K)[o]?) ∧ (∀ o, w'.cell? ⟨w.heap.size, o, none⟩ = (mcells m)[o]?))) (by kernel_rfl) ⟨H6.out.kc, H6.out.cells mz3⟩ (fun hh0 => ?_)
      replace H6 := Lib.hid H6.out.drew
      generalize World.drew w6 = w6 at *
      refine tk 12 0 ⟨some 58, _, _, _, _, _⟩ (ptr K.k) rfl (by kernel_rfl) (by rfl) hh0 ?_ ?_
      ·intro w' _
       go_simp
      simp only [Act.put, setIfInBounds_toArray, set_cons_zero, set_cons_succ]
      refine tk 11 1 ⟨some 59, _, _, _, _, _⟩ (ptr K.k) rfl (by kernel_rfl) (by rfl) hh0 ?_ ?_
      ·intro w' _
       go_simp
      simp only [Act.put, setIfInBounds_toArray, set_cons_zero, set_cons_succ]
      refine tk 10 2 ⟨some 60, _, _, _, _, _⟩ (.pointer (some ⟨K.k, 16, none⟩)) rfl (by kernel_rfl) (by rfl) hh0 ?_ ?_
      ·intro w' _
       go_simp
      simp only [Act.put, setIfInBounds_toArray, set_cons_zero, set_cons_succ]
      refine tk 9 3 ⟨some 61, _, _, _, _, _⟩ (.pointer (some ⟨K.b, 0, none⟩)) rfl (by kernel_rfl) (by rfl) hh0 ?_ ?_
      ·rintro w' ⟨c0, -⟩
       go_simp
      simp only [Act.put, setIfInBounds_toArray, set_cons_zero, set_cons_succ]
      refine tk 8 4 ⟨some 62, _, _, _, _, _⟩ (.pointer (some ⟨w.heap.size, 1, none⟩)) rfl (by kernel_rfl) (by rfl) hh0 ?_ ?_
      ·intro w' _
       go_simp
      simp only [Act.put, setIfInBounds_toArray, set_cons_zero, set_cons_succ]
      refine tk 7 5 ⟨some 63, _, _, _, _, _⟩ (.int .i64 m.ln) rfl (by kernel_rfl) (by rfl) hh0 ?_ ?_
      ·rintro w' ⟨-, c0⟩
       go_simp
      simp only [Act.put, setIfInBounds_toArray, set_cons_zero, set_cons_succ]
      refine wpAnyH_ready (fuel := 6) (rs := [6, 10]) (by kernel_rfl) (by simp) ?_
      refine AllReadyH.cons (o := ⟨some 64, _, _, _, _, _⟩) rfl (fun P hP => ?_) (AllReadyH.cons (o := ⟨some 12, _, _, _, _, _⟩) rfl (fun P hP => ?_) AllReadyH.nil)
      ·go_simp
       refine (HSh.out _ _ H6.out).mono ?_
       rintro e w7 ⟨rfl, hb7⟩
       have H7 := Lib.hid (H6.out.step hb7)
       clear hb7
       show P _ _
       refine hP.out _ _ (⟨H7.out.kc, H7.out.cells mz3⟩) (fun hh1 => ?_)
       clear hP P hh0
       refine tk 5 7 ⟨some 57, _, _, _, _, _⟩ (.tuple #[.agg (dcells d), .int .i64 er]) rfl (by kernel_rfl) (by rfl) hh1 ?_ ?_
       ·intro w' _
        go_simp
       simp only [Act.put, setIfInBounds_toArray, set_cons_zero, set_cons_succ]
       refine tk 4 8 ⟨some 65, _, _, _, _, _⟩ (.agg (dcells d)) rfl (by kernel_rfl) (by rfl) hh1 ?_ ?_
       ·intro w' _
        go_simp
       simp only [Act.put, setIfInBounds_toArray, set_cons_zero, set_cons_succ]
       refine tk 3 9 ⟨some 66, _, _, _, _, _⟩ (.int .i64 er) rfl (by kernel_rfl) (by rfl) hh1 ?_ ?_
       ·intro w' _
        go_simp
       simp only [Act.put, setIfInBounds_toArray, set_cons_zero, set_cons_succ]
       refine rd 2 10 ⟨some 12, _, _, _, _, _⟩ rfl (by kernel_rfl) (fun P hP => ?_)
       go_simp
       have H7a := Lib.hid (H7.out.add (.cells #[.int .i64 0, .int .i64 0, .int .i64 0, .int .i64 0, .int .i64 0, .int .i64 0, .int .i64 0, .int .i64 0] 36))
       show P _ _
       refine hP.out _ _ (⟨H7a.out.kc, H7a.out.cells mz4⟩) (fun hh2 => ?_)
       clear hP P hh1
       try simp only [Act.put, setIfInBounds_toArray, set_cons_zero, set_cons_succ]
       refine rd 1 11 ⟨none, _, _, _, _, _⟩ rfl (by kernel_rfl) (fun P hP => ?_)
       rw [if_pos (by rfl)]
       refine wp_store_row 36 (.tmp 12) (.tmp 65) rfl (w7.heap.size) (dcells d) rfl rfl 36 (#[.int .i64 0, .int .i64 0, .int .i64 0, .int .i64 0, .int .i64 0, .int .i64 0, .int .i64 0, .int .i64 0]) (H7a.out.box mz0) (by kernel_rfl) rfl (by kernel_rfl) ?_
       have H7as := Lib.hid (H7a.out.setRow (cs' := dcells d))
       refine hP.out _ _ (⟨H7as.out.kc, H7as.out.cells mz4⟩) (fun hh3 => ?_)
       clear hP P hh2
       simp only [Act.put]
       refine tk 0 12 ⟨some 13, _, _, _, _, _⟩ (.int .i64 er) rfl (by kernel_rfl) (by rfl) hh3 ?_ ?_
       ·intro w' _
        go_simp
       simp only [Act.put, setIfInBounds_toArray, set_cons_zero, set_cons_succ]
       refine wpAnyH_done (by kernel_rfl) ?_ _
       refine NoPanic.normal ?_
       clear hh3
       go_wp2
       go_meet
       case rel => exact ⟨_, rfl, rfl, H7as.out⟩
      ·go_simp
       have H6a := Lib.hid (H6.out.add (.cells #[.int .i64 0, .int .i64 0, .int .i64 0, .int .i64 0, .int .i64 0, .int .i64 0, .int .i64 0, .int .i64 0] 36))
       show P _ _
       refine hP.out _ _ (⟨H6a.out.kc, H6a.out.cells mz4⟩) (fun hh1 => ?_)
       clear hP P hh0
       try simp only [Act.put, setIfInBounds_toArray, set_cons_zero, set_cons_succ]
       refine rd 5 6 ⟨some 64, _, _, _, _, _⟩ rfl (by kernel_rfl) (fun P hP => ?_)
       go_simp
       refine (HSh.out _ _ H6a.out).mono ?_
       rintro e w7 ⟨rfl, hb7⟩
       have H7 := Lib.hid (H6a.out.step hb7)
       clear hb7
       show P _ _
       refine hP.out _ _ (⟨H7.out.kc, H7.out.cells mz4⟩) (fun hh2 => ?_)
       clear hP P hh1
       refine tk 4 7 ⟨some 57, _, _, _, _, _⟩ (.tuple #[.agg (dcells d), .int .i64 er]) rfl (by kernel_rfl) (by rfl) hh2 ?_ ?_
       ·intro w' _
        go_simp
       simp only [Act.put, setIfInBounds_toArray, set_cons_zero, set_cons_succ]
       refine tk 3 8 ⟨some 65, _, _, _, _, _⟩ (.agg (dcells d)) rfl (by kernel_rfl) (by rfl) hh2 ?_ ?_
       ·intro w' _
        go_simp
       simp only [Act.put, setIfInBounds_toArray, set_cons_zero, set_cons_succ]
       refine tk 2 9 ⟨some 66, _, _, _, _, _⟩ (.int .i64 er) rfl (by kernel_rfl) (by rfl) hh2 ?_ ?_
       ·intro w' _
        go_simp
       simp only [Act.put, setIfInBounds_toArray, set_cons_zero, set_cons_succ]
       refine rd 1 11 ⟨none, _, _, _, _, _⟩ rfl (by kernel_rfl) (fun P hP => ?_)
       rw [if_pos (by rfl)]
       refine wp_store_row 36 (.tmp 12) (.tmp 65) rfl (w6.heap.size) (dcells d) rfl rfl 36 (#[.int .i64 0, .int .i64 0, .int .i64 0, .int .i64 0, .int .i64 0, .int .i64 0, .int .i64 0, .int .i64 0]) (H7.out.box mz0) (by kernel_rfl) rfl (by kernel_rfl) ?_
       have H7s := Lib.hid (H7.out.setRow (cs' := dcells d))
       refine hP.out _ _ (⟨H7s.out.kc, H7s.out.cells mz4⟩) (fun hh3 => ?_)
       clear hP P hh2
       simp only [Act.put]
       refine tk 0 12 ⟨some 13, _, _, _, _, _⟩ (.int .i64 er) rfl (by kernel_rfl) (by rfl) hh3 ?_ ?_
       ·intro w' _
        go_simp
       simp only [Act.put, setIfInBounds_toArray, set_cons_zero, set_cons_succ]
       refine wpAnyH_done (by kernel_rfl) ?_ _
       refine NoPanic.normal ?_
       clear hh3
       go_wp2
       go_meet
       case rel => exact ⟨_, rfl, rfl, H7s.out⟩
    case rest =>
     obtain ⟨md, rfl, rfl, h7⟩ := hcut
     have H7 := Lib.hid h7
     clear h7 H6 HSh HW HKS hy6 hm6
     obtain ⟨w7, rfl⟩ : ∃ w7 : World, w7 = wc := ⟨_, rfl⟩
     have hm7 := H7.out.cells mz4
     rcases HB.out with ⟨he, rfl, rfl⟩ | ⟨he, rfl, ⟨k5, rfl⟩ | ⟨k5, rfl⟩⟩
     ·as_aux_lemma =>
       have h4 := H7.out.box mz3
       go_wp2_with (first
        | ((with_reducible refine wpList_store_row (o := ⟨none, _, _, _, _, _⟩) rfl 38 (.tmp 4) (.tmp 69) rfl (w.heap.size + 1) (#[.int .i64 0, .int .i64 0, .int .i64 0, .int .i64 0, .int .i64 0, .int .i64 0, .int .i64 0, .int .i64 0, .int .i64 0, .int .i64 0, .int .i64 0, .int .i64 0, .int .i64 0, .int .i64 0, .int .i64 0]) ?sx ?sy 38 ?old ?sg ?si ?so ?s1 ?_); (case sx => rfl); (case sy => rfl); (case old => exact #[.int .i64 0, .int .i64 0, .int .i64 0, .int .i64 0, .int .i64 0, .int .i64 0, .int .i64 0, .int .i64 0, .int .i64 0, .int .i64 0, .int .i64 0, .int .i64 0, .int .i64 0, .int .i64 0, .int .i64 0]); (case sg => exact h4); (case si => kernel_rfl); (case so => rfl); (case s1 => kernel_rfl)))
       exact dfwd_ret (r := (m0, false, 7)) rfl rfl rfl rfl (setRow_heap _ _ _ _ _ _ h4) H7.out.setRow3.drop.drop.drop.drop.drop
     ·as_aux_lemma =>
       have hd8 := H7.out.cells mz0
       have HX8 := Lib.hid H7.out.rot2
       clear H7
       go_wp2_with (first
        | (((with_reducible refine wpList_store_box (op := ⟨none, _, _, _, _, _⟩) rfl 36 (.tmp 81) (.tmp 80) rfl mx 7 (.agg (dcells d)) ?sx ?sy (#[.int .i64 7, .int .i64 m.ln, .int .i64 core, .int .i64 m.wh, .int .i64 1, .int .i64 m.ac, .int .i64 ow, .int .i64 0, .int .i64 0, .int .i64 0, .int .i64 0, .int .i64 0, .int .i64 0, .int .i64 0, .int .i64 0]) 38 ?sg ?si ?sf ?s1 (#[.int .i64 7, .int .i64 m.ln, .int .i64 core, .int .i64 m.wh, .int .i64 1, .int .i64 m.ac, .int .i64 ow, .int .i64 d.w0, .int .i64 d.w1, .int .i64 d.w2, .int .i64 d.w3, .int .i64 d.w4, .int .i64 d.w5, .int .i64 d.w6, .int .i64 d.w7]) ?sn ?_); (case sx => rfl); (case sy => rfl); (case sg => exact HX8.out.box mz0); (case si => kernel_rfl); (case sf => exact Nat.le_of_ble_eq_true rfl); (case s1 => kernel_rfl); (case sn => rfl); intro w9 gg rr kk; have HX9 := Lib.hid (HX8.out.turned gg rr kk); clear gg rr kk); have h4 := HX9.out.box mz3; have h7 := HX9.out.box mz0)
        | ((with_reducible refine wpList_load_row (o := ⟨some 82, _, _, _, _, _⟩) rfl 38 (.tmp 7) rfl (mx) ?lx 38 (#[.int .i64 7, .int .i64 m.ln, .int .i64 core, .int .i64 m.wh, .int .i64 1, .int .i64 m.ac, .int .i64 ow, .int .i64 d.w0, .int .i64 d.w1, .int .i64 d.w2, .int .i64 d.w3, .int .i64 d.w4, .int .i64 d.w5, .int .i64 d.w6, .int .i64 d.w7]) (0, 0) _ ?lg Tryz.underlying38 ?ld ?li ?_); (case lx => rfl); (case lg => exact h7); (case ld => rfl); (case li => kernel_rfl))
        | ((with_reducible refine wpList_store_row (o := ⟨none, _, _, _, _, _⟩) rfl 38 (.tmp 4) (.tmp 82) rfl (w.heap.size + 1) (#[.int .i64 7, .int .i64 m.ln, .int .i64 core, .int .i64 m.wh, .int .i64 1, .int .i64 m.ac, .int .i64 ow, .int .i64 d.w0, .int .i64 d.w1, .int .i64 d.w2, .int .i64 d.w3, .int .i64 d.w4, .int .i64 d.w5, .int .i64 d.w6, .int .i64 d.w7]) ?sx ?sy 38 ?old ?sg ?si ?so ?s1 ?_); (case sx => rfl); (case sy => rfl); (case old => exact #[.int .i64 0, .int .i64 0, .int .i64 0, .int .i64 0, .int .i64 0, .int .i64 0, .int .i64 0, .int .i64 0, .int .i64 0, .int .i64 0, .int .i64 0, .int .i64 0, .int .i64 0, .int .i64 0, .int .i64 0]); (case sg => exact h4); (case si => kernel_rfl); (case so => rfl); (case s1 => kernel_rfl)))
       exact dfwd_ret (r := (⟨7, m.ln, core, m.wh, 1, m.ac, ow, d.w0, d.w1, d.w2, d.w3, d.w4, d.w5, d.w6, d.w7⟩, true, 0)) rfl rfl rfl rfl (setRow_heap _ _ _ _ _ _ h4) HX9.out.setRow3.drop.drop.drop.drop.drop
     ·as_aux_lemma =>
       go_upto_region 15 with fail
       refine wp_region_noPanic ?_
       refine wp_region_held_drew (S := (fun w' : World => (∀ o, w'.cell? ⟨K.k, o, none⟩ = (kcells c core K)[o]?) ∧ (∀ o, w'.cell? ⟨w.heap.size, o, none⟩ = (mcells m)[o]?))) (by kernel_rfl) ⟨H7.out.kc, H7.out.cells mz4⟩ (fun hh0 => ?_)
       replace H7 := Lib.hid H7.out.drew
       generalize World.drew w7 = w7 at *
       refine tk 6 0 ⟨some 73, _, _, _, _, _⟩ (ptr K.k) rfl (by kernel_rfl) (by rfl) hh0 ?_ ?_
       ·intro w' _
        go_simp
       simp only [Act.put, setIfInBounds_toArray, set_cons_zero, set_cons_succ]
       refine tk 5 1 ⟨some 74, _, _, _, _, _⟩ (ptr K.k) rfl (by kernel_rfl) (by rfl) hh0 ?_ ?_
       ·intro w' _
        go_simp
       simp only [Act.put, setIfInBounds_toArray, set_cons_zero, set_cons_succ]
       refine tk 4 2 ⟨some 75, _, _, _, _, _⟩ (.pointer (some ⟨K.k, 16, none⟩)) rfl (by kernel_rfl) (by rfl) hh0 ?_ ?_
       ·intro w' _
        go_simp
       simp only [Act.put, setIfInBounds_toArray, set_cons_zero, set_cons_succ]
       refine tk 3 3 ⟨some 76, _, _, _, _, _⟩ (.pointer (some ⟨K.b, 0, none⟩)) rfl (by kernel_rfl) (by rfl) hh0 ?_ ?_
       ·rintro w' ⟨c0, -⟩
        go_simp
       simp only [Act.put, setIfInBounds_toArray, set_cons_zero, set_cons_succ]
       refine tk 2 4 ⟨some 77, _, _, _, _, _⟩ (.pointer (some ⟨w.heap.size, 1, none⟩)) rfl (by kernel_rfl) (by rfl) hh0 ?_ ?_
       ·intro w' _
        go_simp
       simp only [Act.put, setIfInBounds_toArray, set_cons_zero, set_cons_succ]
       refine tk 1 5 ⟨some 78, _, _, _, _, _⟩ (.int .i64 m.ln) rfl (by kernel_rfl) (by rfl) hh0 ?_ ?_
       ·rintro w' ⟨-, c0⟩
        go_simp
       simp only [Act.put, setIfInBounds_toArray, set_cons_zero, set_cons_succ]
       refine rd 0 6 ⟨some 79, _, _, _, _, _⟩ rfl (by kernel_rfl) (fun P hP => ?_)
       go_simp
       refine (H7.out.dgive m.ln).mono ?_
       rintro e w8 ⟨rfl, ho⟩
       have H8 := Lib.hid ho
       clear ho
       show P _ _
       refine hP.out _ _ (⟨H8.out.kc, H8.out.cells mz4⟩) (fun hh1 => ?_)
       clear hP P hh0
       refine wpAnyH_done (by kernel_rfl) ?_ _
       refine NoPanic.normal ?_
       clear hh1
       clear H7
       have hd8 := H8.out.cells mz0
       have HX8 := Lib.hid H8.out.rot2
       clear H8
       go_wp2_with (first
        | (((with_reducible refine wpList_store_box (op := ⟨none, _, _, _, _, _⟩) rfl 36 (.tmp 81) (.tmp 80) rfl mx 7 (.agg (dcells d)) ?sx ?sy (#[.int .i64 7, .int .i64 m.ln, .int .i64 core, .int .i64 m.wh, .int .i64 1, .int .i64 m.ac, .int .i64 ow, .int .i64 0, .int .i64 0, .int .i64 0, .int .i64 0, .int .i64 0, .int .i64 0, .int .i64 0, .int .i64 0]) 38 ?sg ?si ?sf ?s1 (#[.int .i64 7, .int .i64 m.ln, .int .i64 core, .int .i64 m.wh, .int .i64 1, .int .i64 m.ac, .int .i64 ow, .int .i64 d.w0, .int .i64 d.w1, .int .i64 d.w2, .int .i64 d.w3, .int .i64 d.w4, .int .i64 d.w5, .int .i64 d.w6, .int .i64 d.w7]) ?sn ?_); (case sx => rfl); (case sy => rfl); (case sg => exact HX8.out.box mz0); (case si => kernel_rfl); (case sf => exact Nat.le_of_ble_eq_true rfl); (case s1 => kernel_rfl); (case sn => rfl); intro w9 gg rr kk; have HX9 := Lib.hid (HX8.out.turned gg rr kk); clear gg rr kk); have h4 := HX9.out.box mz3; have h7 := HX9.out.box mz0)
        | ((with_reducible refine wpList_load_row (o := ⟨some 82, _, _, _, _, _⟩) rfl 38 (.tmp 7) rfl (mx) ?lx 38 (#[.int .i64 7, .int .i64 m.ln, .int .i64 core, .int .i64 m.wh, .int .i64 1, .int .i64 m.ac, .int .i64 ow, .int .i64 d.w0, .int .i64 d.w1, .int .i64 d.w2, .int .i64 d.w3, .int .i64 d.w4, .int .i64 d.w5, .int .i64 d.w6, .int .i64 d.w7]) (0, 0) _ ?lg Tryz.underlying38 ?ld ?li ?_); (case lx => rfl); (case lg => exact h7); (case ld => rfl); (case li => kernel_rfl))
        | ((with_reducible refine wpList_store_row (o := ⟨none, _, _, _, _, _⟩) rfl 38 (.tmp 4) (.tmp 82) rfl (w.heap.size + 1) (#[.int .i64 7, .int .i64 m.ln, .int .i64 core, .int .i64 m.wh, .int .i64 1, .int .i64 m.ac, .int .i64 ow, .int .i64 d.w0, .int .i64 d.w1, .int .i64 d.w2, .int .i64 d.w3, .int .i64 d.w4, .int .i64 d.w5, .int .i64 d.w6, .int .i64 d.w7]) ?sx ?sy 38 ?old ?sg ?si ?so ?s1 ?_); (case sx => rfl); (case sy => rfl); (case old => exact #[.int .i64 0, .int .i64 0, .int .i64 0, .int .i64 0, .int .i64 0, .int .i64 0, .int .i64 0, .int .i64 0, .int .i64 0, .int .i64 0, .int .i64 0, .int .i64 0, .int .i64 0, .int .i64 0, .int .i64 0]); (case sg => exact h4); (case si => kernel_rfl); (case so => rfl); (case s1 => kernel_rfl)))
       exact dfwd_ret (r := (⟨7, m.ln, core, m.wh, 1, m.ac, ow, d.w0, d.w1, d.w2, d.w3, d.w4, d.w5, d.w6, d.w7⟩, true, 0)) rfl rfl rfl rfl (setRow_heap _ _ _ _ _ _ h4) HX9.out.setRow3.drop.drop.drop.drop.drop

end Go.Proofs.YtlfhkjjjocmpbaaGreatDoor.Cc
