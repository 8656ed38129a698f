import Derived.Test.YtlfhkjjjocmpbaaGreatDoorSx
import Derived.Test.YtlfhkjjjocmpbaaGreatDoorQCdF
import Derived.Deep.CutBlock
import Derived.Deep.DeepCutAuto

namespace Go.Proofs.YtlfhkjjjocmpbaaGreatDoor.Cc
open Go Go.RowKit
open List (setIfInBounds_toArray set_cons_zero set_cons_succ)

variable {w0 w w' : World} {bx : Bx} {K : Kb} {c : Cfg} {core n : Int} {s : St}
set_option maxRecDepth 100000 in
set_option maxHeartbeats 8000000 in
theorem dtake_fill (h : OwnD w0 K c core n s bx w) (m : Msg) (hm : mayM c m = true) (hh : toHome m.kd = false) (hto : (m.to != core) = false) (k4 : (m.kd == 4) = false) (k5 : (m.kd == 5) = false) (k6 : (m.kd == 6) = false) (k10 : (m.kd == 10) = false) {st er : Int} (hy : (look c s m.ln).st = st) {y : Ar.Wy} (hly : look c s m.ln = y) {F2 F3 : List Mh.Ms} {x : Mh.Ms} {q : Bool} (ho : Mh.oweP F2 m.ln = ((x, q), F3))
  (hk : (m.kd == 7) = true ∧ (Hid (∀ w bx, OwnD w0 K c core n s bx w → Calls Tryz.prog 83 #[ptr K.f, .int .i64 m.ln, .int .i64 m.ac, .int .i64 m.ow, .agg (dcells (words m))] w fun e w' => e = .returned (.int .i64 er) ∧ OwnD w0 K c core (n + 1) { s with F := F2 } bx w')) ∨ (m.kd == 7) = false ∧ (m.kd == 8) = true ∧ (st == 3) = true ∧ (Hid (∀ w bx, OwnD w0 K c core n s bx w → Calls Tryz.prog 84 #[ptr K.f, .int .i64 m.ln, .int .i64 m.ac] w fun e w' => e = .returned (.int .i64 er) ∧ OwnD w0 K c core (n + 1) { s with F := F2 } bx w')) ∨ (m.kd == 7) = false ∧ (m.kd == 8) = true ∧ (st == 3) = false ∧ er = 7 ∧ F2 = s.F ∨ (m.kd == 7) = false ∧ (m.kd == 8) = false ∧ (m.kd == 9) = true ∧ (Hid (∀ w bx, OwnD w0 K c core n s bx w → Calls Tryz.prog 85 #[ptr K.f, .int .i64 m.ln] w fun e w' => e = .returned (.int .i64 er) ∧ OwnD w0 K c core (n + 1) { s with F := F2 } bx w')))
  {r : Rp} {s2 : St} (hw : (er != 0) = true ∧ r = (m0, false, 7) ∧ s2 = { s with F := F2 } ∨ (er != 0) = false ∧ r = (m0, false, 0) ∧ (q = false ∧ s2 = { s with F := F3 } ∨ q = true ∧ (x.gr = true ∧ s2 = setA c { s with F := F3 } m.ln x.ow y.wd ∨ x.gr = false ∧ s2 = setA c { s with F := F3 } m.ln x.ow x.wd))) :
  Calls Tryz.prog 38 #[ptr K.k, mv m] w (RetT r (OwnD w0 K c core (n + 2) s2 bx)) := by
 have H0 := Lib.hid (h.add3 (.cells (mcells m) 38) (.cells #[.int .i64 0, .int .i64 0, .int .i64 0, .int .i64 0, .int .i64 0, .int .i64 0, .int .i64 0, .int .i64 0, .int .i64 0, .int .i64 0, .int .i64 0, .int .i64 0, .int .i64 0, .int .i64 0, .int .i64 0] 38) (.cells #[.int .i64 0, .int .i64 0, .int .i64 0, .int .i64 0, .int .i64 0, .int .i64 0, .int .i64 0, .int .i64 0, .int .i64 0, .int .i64 0, .int .i64 0, .int .i64 0, .int .i64 0, .int .i64 0, .int .i64 0] 38))
 have HMy := Lib.hid (fun w => refMay_any c m w)
 have HHo := Lib.hid (fun w => refHome_any m.kd w)
 rw [hm] at HMy
 rw [hh] at HHo
 clear hm hh
 have HSt := Lib.hid (fun w1 bx (h : OwnD w0 K c core n s bx w1) => h.dstate m.ln)
 rw [hy] at HSt
 have HO := Lib.hid (fun w1 bx (h : OwnD w0 K c core (n + 1) { s with F := F2 } bx w1) => h.dowe m.ln)
 rw [show Mh.oweP ({ s with F := F2 } : St).F m.ln = ((x, q), F3) from ho] at HO
 have HFd := Lib.hid (fun w1 bx (h : OwnD w0 K c core (n + 1 + 1) { s with F := F3 } bx w1) => h.dfind m.ln)
 rw [show look c { s with F := F3 } m.ln = y from hly] at HFd
 generalize there c { s with F := F3 } m.ln = yq at *
 generalize (Ar.fnd c ({ s with F := F3 } : St).A m.ln).2.1 = yi at *
 rw [show n + 1 + 1 = n + 2 by omega] at HO HFd
 have HK := Lib.hid hk
 have HW := Lib.hid hw
 clear hy ho hly hk hw
 clear h
 go_enter Tryz.func38, Tryz.ntmps38
 go_upto_region 2 with fail
 obtain ⟨w1, hw1⟩ : ∃ w1, w1 = ((w.alloc (.cells (mcells m) 38)).alloc (.cells #[.int .i64 0, .int .i64 0, .int .i64 0, .int .i64 0, .int .i64 0, .int .i64 0, .int .i64 0, .int .i64 0, .int .i64 0, .int .i64 0, .int .i64 0, .int .i64 0, .int .i64 0, .int .i64 0, .int .i64 0] 38)).alloc (.cells #[.int .i64 0, .int .i64 0, .int .i64 0, .int .i64 0, .int .i64 0, .int .i64 0, .int .i64 0, .int .i64 0, .int .i64 0, .int .i64 0, .int .i64 0, .int .i64 0, .int .i64 0, .int .i64 0, .int .i64 0] 38) := ⟨_, rfl⟩
 rw [← hw1] at H0
 have H1 := H0
 change Code.wp _ _ _ _ (((w.alloc (.cells (mcells m) 38)).alloc (.cells #[.int .i64 0, .int .i64 0, .int .i64 0, .int .i64 0, .int .i64 0, .int .i64 0, .int .i64 0, .int .i64 0, .int .i64 0, .int .i64 0, .int .i64 0, .int .i64 0, .int .i64 0, .int .i64 0, .int .i64 0] 38)).alloc (.cells #[.int .i64 0, .int .i64 0, .int .i64 0, .int .i64 0, .int .i64 0, .int .i64 0, .int .i64 0, .int .i64 0, .int .i64 0, .int .i64 0, .int .i64 0, .int .i64 0, .int .i64 0, .int .i64 0, .int .i64 0] 38))
 rw [← hw1]
 clear hw1 H0
 have HR := Lib.hid (fun d os => H1.out.step (below_regrown w1 d os))
 have hck := fun o d os => (HR.out d os).kc o
 have hcm := fun o d os => (HR.out d os).cells mz2 o
 refine wp_region_quiet_below (by kernel_rfl) (by kernel_rfl) ?_
 repeat (go_big_quiet_step (first
  | (go_at_call 79; exact Calls.regrown_of (HMy.out _))
  | (go_at_call 80; exact Calls.regrown_of (HHo.out _))))
 refine wpQuiet_nil ?_
 intro w2 hw2
 have hb2 : Below w1.heap.size w1 w2 := by
  obtain ⟨pp, rfl⟩ := hw2
  exact below_regrown _ _ _
 have H2 := Lib.hid (H1.out.step hb2)
 clear hw2 hb2 hck hcm HR H1 HMy HHo
 have hm2 := H2.out.cells mz2
 go_upto_region 6 with fail
 go_wp2_with fail
 refine (HSt.out _ _ H2.out).mono ?_
 rintro e w3 ⟨rfl, hb3⟩
 have H3 := Lib.hid (H2.out.step hb3)
 have hm3 := H3.out.cells mz2
 clear hb3 H2 hm2
 go_upto_block 0 with fail
 go_cut [9] (fun s9 wx => s9 = .int .i64 er ∧ OwnD w0 K c core (n + 1) { s with F := F2 } ((w.heap.size + 2, .cells (#[.int .i64 0, .int .i64 0, .int .i64 0, .int .i64 0, .int .i64 0, .int .i64 0, .int .i64 0, .int .i64 0, .int .i64 0, .int .i64 0, .int .i64 0, .int .i64 0, .int .i64 0, .int .i64 0, .int .i64 0]) 38) :: (w.heap.size + 1, .cells (#[.int .i64 0, .int .i64 0, .int .i64 0, .int .i64 0, .int .i64 0, .int .i64 0, .int .i64 0, .int .i64 0, .int .i64 0, .int .i64 0, .int .i64 0, .int .i64 0, .int .i64 0, .int .i64 0, .int .i64 0]) 38) :: (w.heap.size, .cells (mcells m) 38) :: bx) wx)
 case first =>
  rcases HK.out with ⟨k7, HE⟩ | ⟨k7, k8, g3, HE⟩ | ⟨k7, k8, g3, rfl, rfl⟩ | ⟨k7, k8, k9, HE⟩
  ·clear hm3
   have hkh := H3.out.kc
   have hb0 := H3.out.cells mz2
   go_upto_region 16 with fail
   go_region_held3 (fun w' => (∀ o, w'.cell? ⟨K.k, o, none⟩ = (kcells c core K)[o]?) ∧ (∀ o, w'.cell? ⟨w.heap.size, o, none⟩ = (mcells m)[o]?))
    (first | exact ⟨H4.out.kc, H4.out.cells mz2⟩ | exact ⟨hkh, hb0⟩ | go_keep)
    (first
     | (go_at_call 83; refine (HE.out _ _ (by first | exact H3.out | exact H3.out.drew)).mono ?_; rintro e w4 ⟨rfl, ho⟩; have H4 := Lib.hid ho; clear ho))
   clear hkh hb0
   go_wp2
   go_meet
   case rel => exact ⟨rfl, H4.out⟩
  ·clear hm3
   have hkh := H3.out.kc
   have hb0 := H3.out.cells mz2
   go_upto_region 19 with fail
   go_region_held3 (fun w' => (∀ o, w'.cell? ⟨K.k, o, none⟩ = (kcells c core K)[o]?) ∧ (∀ o, w'.cell? ⟨w.heap.size, o, none⟩ = (mcells m)[o]?))
    (first | exact ⟨H4.out.kc, H4.out.cells mz2⟩ | exact ⟨hkh, hb0⟩ | go_keep)
    (first
     | (go_at_call 84; refine (HE.out _ _ (by first | exact H3.out | exact H3.out.drew)).mono ?_; rintro e w4 ⟨rfl, ho⟩; have H4 := Lib.hid ho; clear ho))
   clear hkh hb0
   go_wp2
   go_meet
   case rel => exact ⟨rfl, H4.out⟩
  ·go_wp2
   go_meet
   case rel => exact ⟨rfl, H3.out.more (by omega)⟩
  ·clear hm3
   have hkh := H3.out.kc
   have hb0 := H3.out.cells mz2
   go_upto_region 21 with fail
   go_region_held3 (fun w' => (∀ o, w'.cell? ⟨K.k, o, none⟩ = (kcells c core K)[o]?) ∧ (∀ o, w'.cell? ⟨w.heap.size, o, none⟩ = (mcells m)[o]?))
    (first | exact ⟨H4.out.kc, H4.out.cells mz2⟩ | exact ⟨hkh, hb0⟩ | go_keep)
    (first
     | (go_at_call 85; refine (HE.out _ _ (by first | exact H3.out | exact H3.out.drew)).mono ?_; rintro e w4 ⟨rfl, ho⟩; have H4 := Lib.hid ho; clear ho))
   clear hkh hb0
   go_wp2
   go_meet
   case rel => exact ⟨rfl, H4.out⟩
 case rest =>
  obtain ⟨rfl, h5⟩ := hcut
  have H5 := Lib.hid h5
  clear h5 H3 hm3 HK HSt
  obtain ⟨w5, rfl⟩ : ∃ w5 : World, w5 = wc := ⟨_, rfl⟩
  rcases HW.out with ⟨he, rfl, rfl⟩ | ⟨he, rfl, hw⟩
  ·as_aux_lemma =>
    have hm5 := H5.out.cells mz2
    have h4 := H5.out.box mz1
    have h7 := H5.out.box mz0
    go_wp2_with (first
     | ((with_reducible refine wpList_load_row (o := ⟨some 132, _, _, _, _, _⟩) rfl 38 (.tmp 7) rfl (w.heap.size + 2) ?lx 38 (#[.int .i64 0, .int .i64 0, .int .i64 0, .int .i64 0, .int .i64 0, .int .i64 0, .int .i64 0, .int .i64 0, .int .i64 0, .int .i64 0, .int .i64 0, .int .i64 0, .int .i64 0, .int .i64 0, .int .i64 0]) (0, 0) _ ?lg Tryz.underlying38 ?ld ?li ?_); (case lx => rfl); (case lg => exact h7); (case ld => rfl); (case li => kernel_rfl))
     | ((with_reducible refine wpList_store_row (o := ⟨none, _, _, _, _, _⟩) rfl 38 (.tmp 4) (.tmp 132) rfl (w.heap.size + 1) (#[.int .i64 0, .int .i64 0, .int .i64 0, .int .i64 0, .int .i64 0, .int .i64 0, .int .i64 0, .int .i64 0, .int .i64 0, .int .i64 0, .int .i64 0, .int .i64 0, .int .i64 0, .int .i64 0, .int .i64 0]) ?sx ?sy 38 ?old ?sg ?si ?so ?s1 ?_); (case sx => rfl); (case sy => rfl); (case old => exact #[.int .i64 0, .int .i64 0, .int .i64 0, .int .i64 0, .int .i64 0, .int .i64 0, .int .i64 0, .int .i64 0, .int .i64 0, .int .i64 0, .int .i64 0, .int .i64 0, .int .i64 0, .int .i64 0, .int .i64 0]); (case sg => exact h4); (case si => kernel_rfl); (case so => rfl); (case s1 => kernel_rfl)))
    exact dtake_ret (r := (m0, false, 7)) rfl rfl rfl rfl (setRow_heap _ _ _ _ _ _ h4) (H5.out.setRow1.drop.drop.drop.more (by omega))
  ·have HV := Lib.hid hw
   clear hw HW
   have hm5 := H5.out.cells mz2
   go_upto_region 28 with fail
   go_cut [10, 11] (fun s10 s11 wx => ∃ mx, s10 = .pointer (some ⟨mx, 0, none⟩) ∧ s11 = .bool q ∧ OwnD w0 K c core (n + 2) { s with F := F3 } ((mx, .cells (Mh.mcells x) 75) :: (w.heap.size + 2, .cells (#[.int .i64 0, .int .i64 0, .int .i64 0, .int .i64 0, .int .i64 0, .int .i64 0, .int .i64 0, .int .i64 0, .int .i64 0, .int .i64 0, .int .i64 0, .int .i64 0, .int .i64 0, .int .i64 0, .int .i64 0]) 38) :: (w.heap.size + 1, .cells (#[.int .i64 0, .int .i64 0, .int .i64 0, .int .i64 0, .int .i64 0, .int .i64 0, .int .i64 0, .int .i64 0, .int .i64 0, .int .i64 0, .int .i64 0, .int .i64 0, .int .i64 0, .int .i64 0, .int .i64 0]) 38) :: (w.heap.size, .cells (mcells m) 38) :: bx) wx)
   case first =>
    as_aux_lemma =>
    clear hm5
    refine wp_region_noPanic ?_
    refine wp_region_held_drew (S := (fun w' : World => (∀ o, w'.cell? ⟨K.k, o, none⟩ = (kcells c core K)[o]?) ∧ (∀ o, w'.cell? ⟨w.heap.size, o, none⟩ = (mcells m)[o]?))) (by kernel_rfl) ⟨H5.out.kc, H5.out.cells mz2⟩ (fun hh0 => ?_)
    replace H5 := Lib.hid H5.out.drew
    generalize World.drew w5 = w5 at *
    refine tk 12 0 ⟨some 138, _, _, _, _, _⟩ (ptr K.k) rfl (by kernel_rfl) (by rfl) hh0 ?_ ?_
    ·intro w' _
     go_simp
    simp only [Act.put, setIfInBounds_toArray, set_cons_zero, set_cons_succ]
    refine tk 11 1 ⟨some 139, _, _, _, _, _⟩ (ptr K.k) rfl (by kernel_rfl) (by rfl) hh0 ?_ ?_
    ·intro w' _
     go_simp
    simp only [Act.put, setIfInBounds_toArray, set_cons_zero, set_cons_succ]
    refine tk 10 2 ⟨some 140, _, _, _, _, _⟩ (.pointer (some ⟨K.k, 15, none⟩)) rfl (by kernel_rfl) (by rfl) hh0 ?_ ?_
    ·intro w' _
     go_simp
    simp only [Act.put, setIfInBounds_toArray, set_cons_zero, set_cons_succ]
    refine tk 9 3 ⟨some 141, _, _, _, _, _⟩ (.pointer (some ⟨K.f, 0, none⟩)) rfl (by kernel_rfl) (by rfl) hh0 ?_ ?_
    ·rintro w' ⟨c0, -⟩
     go_simp
    simp only [Act.put, setIfInBounds_toArray, set_cons_zero, set_cons_succ]
    refine tk 8 4 ⟨some 142, _, _, _, _, _⟩ (.pointer (some ⟨w.heap.size, 1, none⟩)) rfl (by kernel_rfl) (by rfl) hh0 ?_ ?_
    ·intro w' _
     go_simp
    simp only [Act.put, setIfInBounds_toArray, set_cons_zero, set_cons_succ]
    refine tk 7 5 ⟨some 143, _, _, _, _, _⟩ (.int .i64 m.ln) rfl (by kernel_rfl) (by rfl) hh0 ?_ ?_
    ·rintro w' ⟨-, c0⟩
     go_simp
    simp only [Act.put, setIfInBounds_toArray, set_cons_zero, set_cons_succ]
    refine wpAnyH_ready (fuel := 6) (rs := [6, 10]) (by kernel_rfl) (by simp) ?_
    refine AllReadyH.cons (o := ⟨some 144, _, _, _, _, _⟩) rfl (fun P hP => ?_) (AllReadyH.cons (o := ⟨some 10, _, _, _, _, _⟩) rfl (fun P hP => ?_) AllReadyH.nil)
    ·go_simp
     refine (HO.out _ _ H5.out).mono ?_
     rintro e w6 ⟨rfl, ho⟩
     have H6 := Lib.hid ho
     clear ho
     show P _ _
     refine hP.out _ _ (⟨H6.out.kc, H6.out.cells mz2⟩) (fun hh1 => ?_)
     clear hP P hh0
     refine tk 5 7 ⟨some 137, _, _, _, _, _⟩ (.tuple #[.agg (Mh.mcells x), .bool q]) rfl (by kernel_rfl) (by rfl) hh1 ?_ ?_
     ·intro w' _
      go_simp
     simp only [Act.put, setIfInBounds_toArray, set_cons_zero, set_cons_succ]
     refine tk 4 8 ⟨some 145, _, _, _, _, _⟩ (.agg (Mh.mcells x)) rfl (by kernel_rfl) (by rfl) hh1 ?_ ?_
     ·intro w' _
      go_simp
     simp only [Act.put, setIfInBounds_toArray, set_cons_zero, set_cons_succ]
     refine tk 3 9 ⟨some 146, _, _, _, _, _⟩ (.bool q) rfl (by kernel_rfl) (by rfl) hh1 ?_ ?_
     ·intro w' _
      go_simp
     simp only [Act.put, setIfInBounds_toArray, set_cons_zero, set_cons_succ]
     refine rd 2 10 ⟨some 10, _, _, _, _, _⟩ rfl (by kernel_rfl) (fun P hP => ?_)
     go_simp
     have H6a := Lib.hid (H6.out.add (.cells #[.int .i64 0, .int .i64 0, .int .i64 0, .int .i64 0, .int .i64 0, .int .i64 0, .int .i64 0, .int .i64 0, .int .i64 0, .int .i64 0, .int .i64 0, .int .i64 0, .int .i64 0, .bool false, .bool false] 75))
     show P _ _
     refine hP.out _ _ (⟨H6a.out.kc, H6a.out.cells mz3⟩) (fun hh2 => ?_)
     clear hP P hh1
     try simp only [Act.put, setIfInBounds_toArray, set_cons_zero, set_cons_succ]
     refine rd 1 11 ⟨none, _, _, _, _, _⟩ rfl (by kernel_rfl) (fun P hP => ?_)
     rw [if_pos (by rfl)]
     refine wp_store_row 75 (.tmp 10) (.tmp 145) rfl (w6.heap.size) (Mh.mcells x) rfl rfl 75 (#[.int .i64 0, .int .i64 0, .int .i64 0, .int .i64 0, .int .i64 0, .int .i64 0, .int .i64 0, .int .i64 0, .int .i64 0, .int .i64 0, .int .i64 0, .int .i64 0, .int .i64 0, .bool false, .bool false]) (H6a.out.box mz0) (by kernel_rfl) rfl (by kernel_rfl) ?_
     have H6as := Lib.hid (H6a.out.setRow (cs' := Mh.mcells x))
     refine hP.out _ _ (⟨H6as.out.kc, H6as.out.cells mz3⟩) (fun hh3 => ?_)
     clear hP P hh2
     simp only [Act.put]
     refine tk 0 12 ⟨some 11, _, _, _, _, _⟩ (.bool q) rfl (by kernel_rfl) (by rfl) hh3 ?_ ?_
     ·intro w' _
      go_simp
     simp only [Act.put, setIfInBounds_toArray, set_cons_zero, set_cons_succ]
     refine wpAnyH_done (by kernel_rfl) ?_ _
     refine NoPanic.normal ?_
     clear hh3
     go_wp2
     go_meet
     case rel => exact ⟨_, rfl, rfl, H6as.out⟩
    ·go_simp
     have H5a := Lib.hid (H5.out.add (.cells #[.int .i64 0, .int .i64 0, .int .i64 0, .int .i64 0, .int .i64 0, .int .i64 0, .int .i64 0, .int .i64 0, .int .i64 0, .int .i64 0, .int .i64 0, .int .i64 0, .int .i64 0, .bool false, .bool false] 75))
     show P _ _
     refine hP.out _ _ (⟨H5a.out.kc, H5a.out.cells mz3⟩) (fun hh1 => ?_)
     clear hP P hh0
     try simp only [Act.put, setIfInBounds_toArray, set_cons_zero, set_cons_succ]
     refine rd 5 6 ⟨some 144, _, _, _, _, _⟩ rfl (by kernel_rfl) (fun P hP => ?_)
     go_simp
     refine (HO.out _ _ H5a.out).mono ?_
     rintro e w6 ⟨rfl, ho⟩
     have H6 := Lib.hid ho
     clear ho
     show P _ _
     refine hP.out _ _ (⟨H6.out.kc, H6.out.cells mz3⟩) (fun hh2 => ?_)
     clear hP P hh1
     refine tk 4 7 ⟨some 137, _, _, _, _, _⟩ (.tuple #[.agg (Mh.mcells x), .bool q]) rfl (by kernel_rfl) (by rfl) hh2 ?_ ?_
     ·intro w' _
      go_simp
     simp only [Act.put, setIfInBounds_toArray, set_cons_zero, set_cons_succ]
     refine tk 3 8 ⟨some 145, _, _, _, _, _⟩ (.agg (Mh.mcells x)) rfl (by kernel_rfl) (by rfl) hh2 ?_ ?_
     ·intro w' _
      go_simp
     simp only [Act.put, setIfInBounds_toArray, set_cons_zero, set_cons_succ]
     refine tk 2 9 ⟨some 146, _, _, _, _, _⟩ (.bool q) rfl (by kernel_rfl) (by rfl) hh2 ?_ ?_
     ·intro w' _
      go_simp
     simp only [Act.put, setIfInBounds_toArray, set_cons_zero, set_cons_succ]
     refine rd 1 11 ⟨none, _, _, _, _, _⟩ rfl (by kernel_rfl) (fun P hP => ?_)
     rw [if_pos (by rfl)]
     refine wp_store_row 75 (.tmp 10) (.tmp 145) rfl (w5.heap.size) (Mh.mcells x) rfl rfl 75 (#[.int .i64 0, .int .i64 0, .int .i64 0, .int .i64 0, .int .i64 0, .int .i64 0, .int .i64 0, .int .i64 0, .int .i64 0, .int .i64 0, .int .i64 0, .int .i64 0, .int .i64 0, .bool false, .bool false]) (H6.out.box mz0) (by kernel_rfl) rfl (by kernel_rfl) ?_
     have H6s := Lib.hid (H6.out.setRow (cs' := Mh.mcells x))
     refine hP.out _ _ (⟨H6s.out.kc, H6s.out.cells mz3⟩) (fun hh3 => ?_)
     clear hP P hh2
     simp only [Act.put]
     refine tk 0 12 ⟨some 11, _, _, _, _, _⟩ (.bool q) rfl (by kernel_rfl) (by rfl) hh3 ?_ ?_
     ·intro w' _
      go_simp
     simp only [Act.put, setIfInBounds_toArray, set_cons_zero, set_cons_succ]
     refine wpAnyH_done (by kernel_rfl) ?_ _
     refine NoPanic.normal ?_
     clear hh3
     go_wp2
     go_meet
     case rel => exact ⟨_, rfl, rfl, H6s.out⟩
   case rest =>
    obtain ⟨mx, rfl, rfl, h7⟩ := hcut
    have H7 := Lib.hid h7
    clear h7 H5 hm5 HO
    obtain ⟨w7, rfl⟩ : ∃ w7 : World, w7 = wc := ⟨_, rfl⟩
    rcases HV.out with ⟨rfl, rfl⟩ | ⟨rfl, hg⟩
    ·as_aux_lemma =>
      have h4 := H7.out.box mz2
      have h7 := H7.out.box mz1
      go_wp2_with (first
       | ((with_reducible refine wpList_load_row (o := ⟨some 175, _, _, _, _, _⟩) rfl 38 (.tmp 7) rfl (w.heap.size + 2) ?lx 38 (#[.int .i64 0, .int .i64 0, .int .i64 0, .int .i64 0, .int .i64 0, .int .i64 0, .int .i64 0, .int .i64 0, .int .i64 0, .int .i64 0, .int .i64 0, .int .i64 0, .int .i64 0, .int .i64 0, .int .i64 0]) (0, 0) _ ?lg Tryz.underlying38 ?ld ?li ?_); (case lx => rfl); (case lg => exact h7); (case ld => rfl); (case li => kernel_rfl))
       | ((with_reducible refine wpList_store_row (o := ⟨none, _, _, _, _, _⟩) rfl 38 (.tmp 4) (.tmp 175) rfl (w.heap.size + 1) (#[.int .i64 0, .int .i64 0, .int .i64 0, .int .i64 0, .int .i64 0, .int .i64 0, .int .i64 0, .int .i64 0, .int .i64 0, .int .i64 0, .int .i64 0, .int .i64 0, .int .i64 0, .int .i64 0, .int .i64 0]) ?sx ?sy 38 ?old ?sg ?si ?so ?s1 ?_); (case sx => rfl); (case sy => rfl); (case old => exact #[.int .i64 0, .int .i64 0, .int .i64 0, .int .i64 0, .int .i64 0, .int .i64 0, .int .i64 0, .int .i64 0, .int .i64 0, .int .i64 0, .int .i64 0, .int .i64 0, .int .i64 0, .int .i64 0, .int .i64 0]); (case sg => exact h4); (case si => kernel_rfl); (case so => rfl); (case s1 => kernel_rfl)))
      exact dtake_ret (r := (m0, false, 0)) rfl rfl rfl rfl (setRow_heap _ _ _ _ _ _ h4) H7.out.setRow2.drop.drop.drop.drop
    ·have HG := Lib.hid hg
     clear hg HV
     go_upto_region 30 with fail
     go_cut [12, 13, 14] (fun s12 s13 s14 wx => ∃ my, s12 = .pointer (some ⟨my, 0, none⟩) ∧ s13 = .int .i64 yi ∧ s14 = .bool yq ∧ OwnD w0 K c core (n + 2) { s with F := F3 } ((my, .cells (Ar.ycells y) 69) :: (mx, .cells (Mh.mcells x) 75) :: (w.heap.size + 2, .cells (#[.int .i64 0, .int .i64 0, .int .i64 0, .int .i64 0, .int .i64 0, .int .i64 0, .int .i64 0, .int .i64 0, .int .i64 0, .int .i64 0, .int .i64 0, .int .i64 0, .int .i64 0, .int .i64 0, .int .i64 0]) 38) :: (w.heap.size + 1, .cells (#[.int .i64 0, .int .i64 0, .int .i64 0, .int .i64 0, .int .i64 0, .int .i64 0, .int .i64 0, .int .i64 0, .int .i64 0, .int .i64 0, .int .i64 0, .int .i64 0, .int .i64 0, .int .i64 0, .int .i64 0]) 38) :: (w.heap.size, .cells (mcells m) 38) :: bx) wx)
     case first =>
      as_aux_lemma =>
       refine wp_region_noPanic ?_
       refine wp_region_held_drew (S := (fun w' : World => (∀ o, w'.cell? ⟨K.k, o, none⟩ = (kcells c core K)[o]?) ∧ (∀ o, w'.cell? ⟨w.heap.size, o, none⟩ = (mcells m)[o]?))) (by kernel_rfl) ⟨H7.out.kc, H7.out.cells mz3⟩ (fun hh0 => ?_)
       replace H7 := Lib.hid H7.out.drew
       generalize World.drew w7 = w7 at *
       refine tk 14 0 ⟨some 149, _, _, _, _, _⟩ (ptr K.k) rfl (by kernel_rfl) (by rfl) hh0 ?_ ?_
       ·intro w' _
        go_simp
       simp only [Act.put, setIfInBounds_toArray, set_cons_zero, set_cons_succ]
       refine tk 13 1 ⟨some 150, _, _, _, _, _⟩ (ptr K.k) rfl (by kernel_rfl) (by rfl) hh0 ?_ ?_
       ·intro w' _
        go_simp
       simp only [Act.put, setIfInBounds_toArray, set_cons_zero, set_cons_succ]
       refine tk 12 2 ⟨some 151, _, _, _, _, _⟩ (.pointer (some ⟨K.k, 14, none⟩)) rfl (by kernel_rfl) (by rfl) hh0 ?_ ?_
       ·intro w' _
        go_simp
       simp only [Act.put, setIfInBounds_toArray, set_cons_zero, set_cons_succ]
       refine tk 11 3 ⟨some 152, _, _, _, _, _⟩ (.pointer (some ⟨K.a, 0, none⟩)) rfl (by kernel_rfl) (by rfl) hh0 ?_ ?_
       ·rintro w' ⟨c0, -⟩
        go_simp
       simp only [Act.put, setIfInBounds_toArray, set_cons_zero, set_cons_succ]
       refine tk 10 4 ⟨some 153, _, _, _, _, _⟩ (.pointer (some ⟨w.heap.size, 1, none⟩)) rfl (by kernel_rfl) (by rfl) hh0 ?_ ?_
       ·intro w' _
        go_simp
       simp only [Act.put, setIfInBounds_toArray, set_cons_zero, set_cons_succ]
       refine tk 9 5 ⟨some 154, _, _, _, _, _⟩ (.int .i64 m.ln) rfl (by kernel_rfl) (by rfl) hh0 ?_ ?_
       ·rintro w' ⟨-, c0⟩
        go_simp
       simp only [Act.put, setIfInBounds_toArray, set_cons_zero, set_cons_succ]
       refine wpAnyH_ready (fuel := 8) (rs := [6, 11]) (by kernel_rfl) (by simp) ?_
       refine AllReadyH.cons (o := ⟨some 155, _, _, _, _, _⟩) rfl (fun P hP => ?_) (AllReadyH.cons (o := ⟨some 12, _, _, _, _, _⟩) rfl (fun P hP => ?_) AllReadyH.nil)
       ·go_simp
        refine (HFd.out _ _ H7.out).mono ?_
        rintro e w8 ⟨rfl, hb8⟩
        have H8 := Lib.hid (H7.out.step hb8)
        clear hb8
        show P _ _
        refine hP.out _ _ (⟨H8.out.kc, H8.out.cells mz3⟩) (fun hh1 => ?_)
        clear hP P hh0
        refine tk 7 7 ⟨some 148, _, _, _, _, _⟩ (.tuple #[.agg (Ar.ycells y), .int .i64 yi, .bool yq]) rfl (by kernel_rfl) (by rfl) hh1 ?_ ?_
        ·intro w' _
         go_simp
        simp only [Act.put, setIfInBounds_toArray, set_cons_zero, set_cons_succ]
        refine tk 6 8 ⟨some 156, _, _, _, _, _⟩ (.agg (Ar.ycells y)) rfl (by kernel_rfl) (by rfl) hh1 ?_ ?_
        ·intro w' _
         go_simp
        simp only [Act.put, setIfInBounds_toArray, set_cons_zero, set_cons_succ]
        refine tk 5 9 ⟨some 157, _, _, _, _, _⟩ (.int .i64 yi) rfl (by kernel_rfl) (by rfl) hh1 ?_ ?_
        ·intro w' _
         go_simp
        simp only [Act.put, setIfInBounds_toArray, set_cons_zero, set_cons_succ]
        refine tk 4 10 ⟨some 158, _, _, _, _, _⟩ (.bool yq) rfl (by kernel_rfl) (by rfl) hh1 ?_ ?_
        ·intro w' _
         go_simp
        simp only [Act.put, setIfInBounds_toArray, set_cons_zero, set_cons_succ]
        refine rd 3 11 ⟨some 12, _, _, _, _, _⟩ rfl (by kernel_rfl) (fun P hP => ?_)
        go_simp
        have H8a := Lib.hid (H8.out.add (.cells #[.int .i64 0, .int .i64 0, .int .i64 0, .int .i64 0, .int .i64 0, .int .i64 0, .int .i64 0, .int .i64 0, .int .i64 0, .int .i64 0, .bool false] 69))
        show P _ _
        refine hP.out _ _ (⟨H8a.out.kc, H8a.out.cells mz4⟩) (fun hh2 => ?_)
        clear hP P hh1
        try simp only [Act.put, setIfInBounds_toArray, set_cons_zero, set_cons_succ]
        refine rd 2 12 ⟨none, _, _, _, _, _⟩ rfl (by kernel_rfl) (fun P hP => ?_)
        rw [if_pos (by rfl)]
        refine wp_store_row 69 (.tmp 12) (.tmp 156) rfl (w8.heap.size) (Ar.ycells y) rfl rfl 69 (#[.int .i64 0, .int .i64 0, .int .i64 0, .int .i64 0, .int .i64 0, .int .i64 0, .int .i64 0, .int .i64 0, .int .i64 0, .int .i64 0, .bool false]) (H8a.out.box mz0) (by kernel_rfl) rfl (by kernel_rfl) ?_
        have H8as := Lib.hid (H8a.out.setRow (cs' := Ar.ycells y))
        refine hP.out _ _ (⟨H8as.out.kc, H8as.out.cells mz4⟩) (fun hh3 => ?_)
        clear hP P hh2
        simp only [Act.put]
        refine tk 1 13 ⟨some 13, _, _, _, _, _⟩ (.int .i64 yi) rfl (by kernel_rfl) (by rfl) hh3 ?_ ?_
        ·intro w' _
         go_simp
        simp only [Act.put, setIfInBounds_toArray, set_cons_zero, set_cons_succ]
        refine tk 0 14 ⟨some 14, _, _, _, _, _⟩ (.bool yq) rfl (by kernel_rfl) (by rfl) hh3 ?_ ?_
        ·intro w' _
         go_simp
        simp only [Act.put, setIfInBounds_toArray, set_cons_zero, set_cons_succ]
        refine wpAnyH_done (by kernel_rfl) ?_ _
        refine NoPanic.normal ?_
        clear hh3
        go_wp2
        go_meet
        case rel => exact ⟨_, rfl, rfl, rfl, H8as.out⟩
       ·go_simp
        have H7a := Lib.hid (H7.out.add (.cells #[.int .i64 0, .int .i64 0, .int .i64 0, .int .i64 0, .int .i64 0, .int .i64 0, .int .i64 0, .int .i64 0, .int .i64 0, .int .i64 0, .bool false] 69))
        show P _ _
        refine hP.out _ _ (⟨H7a.out.kc, H7a.out.cells mz4⟩) (fun hh1 => ?_)
        clear hP P hh0
        try simp only [Act.put, setIfInBounds_toArray, set_cons_zero, set_cons_succ]
        refine rd 7 6 ⟨some 155, _, _, _, _, _⟩ rfl (by kernel_rfl) (fun P hP => ?_)
        go_simp
        refine (HFd.out _ _ H7a.out).mono ?_
        rintro e w8 ⟨rfl, hb8⟩
        have H8 := Lib.hid (H7a.out.step hb8)
        clear hb8
        show P _ _
        refine hP.out _ _ (⟨H8.out.kc, H8.out.cells mz4⟩) (fun hh2 => ?_)
        clear hP P hh1
        refine tk 6 7 ⟨some 148, _, _, _, _, _⟩ (.tuple #[.agg (Ar.ycells y), .int .i64 yi, .bool yq]) rfl (by kernel_rfl) (by rfl) hh2 ?_ ?_
        ·intro w' _
         go_simp
        simp only [Act.put, setIfInBounds_toArray, set_cons_zero, set_cons_succ]
        refine tk 5 8 ⟨some 156, _, _, _, _, _⟩ (.agg (Ar.ycells y)) rfl (by kernel_rfl) (by rfl) hh2 ?_ ?_
        ·intro w' _
         go_simp
        simp only [Act.put, setIfInBounds_toArray, set_cons_zero, set_cons_succ]
        refine tk 4 9 ⟨some 157, _, _, _, _, _⟩ (.int .i64 yi) rfl (by kernel_rfl) (by rfl) hh2 ?_ ?_
        ·intro w' _
         go_simp
        simp only [Act.put, setIfInBounds_toArray, set_cons_zero, set_cons_succ]
        refine tk 3 10 ⟨some 158, _, _, _, _, _⟩ (.bool yq) rfl (by kernel_rfl) (by rfl) hh2 ?_ ?_
        ·intro w' _
         go_simp
        simp only [Act.put, setIfInBounds_toArray, set_cons_zero, set_cons_succ]
        refine rd 2 12 ⟨none, _, _, _, _, _⟩ rfl (by kernel_rfl) (fun P hP => ?_)
        rw [if_pos (by rfl)]
        refine wp_store_row 69 (.tmp 12) (.tmp 156) rfl (w7.heap.size) (Ar.ycells y) rfl rfl 69 (#[.int .i64 0, .int .i64 0, .int .i64 0, .int .i64 0, .int .i64 0, .int .i64 0, .int .i64 0, .int .i64 0, .int .i64 0, .int .i64 0, .bool false]) (H8.out.box mz0) (by kernel_rfl) rfl (by kernel_rfl) ?_
        have H8s := Lib.hid (H8.out.setRow (cs' := Ar.ycells y))
        refine hP.out _ _ (⟨H8s.out.kc, H8s.out.cells mz4⟩) (fun hh3 => ?_)
        clear hP P hh2
        simp only [Act.put]
        refine tk 1 13 ⟨some 13, _, _, _, _, _⟩ (.int .i64 yi) rfl (by kernel_rfl) (by rfl) hh3 ?_ ?_
        ·intro w' _
         go_simp
        simp only [Act.put, setIfInBounds_toArray, set_cons_zero, set_cons_succ]
        refine tk 0 14 ⟨some 14, _, _, _, _, _⟩ (.bool yq) rfl (by kernel_rfl) (by rfl) hh3 ?_ ?_
        ·intro w' _
         go_simp
        simp only [Act.put, setIfInBounds_toArray, set_cons_zero, set_cons_succ]
        refine wpAnyH_done (by kernel_rfl) ?_ _
        refine NoPanic.normal ?_
        clear hh3
        go_wp2
        go_meet
        case rel => exact ⟨_, rfl, rfl, rfl, H8s.out⟩
     case rest =>
      obtain ⟨my, rfl, rfl, rfl, h9⟩ := hcut
      have H9 := Lib.hid h9
      clear h9 H7 HFd
      obtain ⟨w9, rfl⟩ : ∃ w9 : World, w9 = wc := ⟨_, rfl⟩
      have hx9 := H9.out.cells mz1
      rcases HG.out with ⟨hgr, rfl⟩ | ⟨hgr, rfl⟩
      ·as_aux_lemma =>
        have hx9 := H9.out.cells mz1
        have hd8 := Lib.hid (H9.out.add (.cells (dcells x.wd) 36))
        have hx10 := hd8.out.cells mz2
        have hy10 := hd8.out.cells mz1
        have hd10 := hd8.out.box mz0
        have hd9 := Lib.hid (hd8.out.setRow (cs' := dcells y.wd))
        clear hd8
        go_upto_region 34 with ((with_reducible refine wpList_store_row (o := ⟨none, _, _, _, _, _⟩) rfl 36 (.tmp 15) (.tmp 164) rfl (w9.heap.size) (dcells y.wd) ?sx ?sy 36 ?old ?sg ?si ?so ?s1 ?_); (case sx => rfl); (case sy => rfl); (case old => exact dcells x.wd); (case sg => exact hd10); (case si => kernel_rfl); (case so => rfl); (case s1 => kernel_rfl))
        obtain ⟨w10, hw10⟩ : ∃ w10, w10 = (w9.alloc (.cells (dcells x.wd) 36)).setRow w9.heap.size (dcells y.wd) := ⟨_, rfl⟩
        rw [← hw10] at hd9
        have H9b := hd9
        change Code.wp _ _ _ _ ((w9.alloc (.cells (dcells x.wd) 36)).setRow w9.heap.size (dcells y.wd))
        rw [← hw10]
        clear hd9 hx9 hx10 hy10 hd10 hw10
        have hkh := H9b.out.kc
        have hb0 := H9b.out.cells mz5
        have hb1 := H9b.out.cells mz2
        have hb2 := H9b.out.cells mz0
        go_region_held3 (fun w' => (∀ o, w'.cell? ⟨K.k, o, none⟩ = (kcells c core K)[o]?) ∧ (∀ o, w'.cell? ⟨w.heap.size, o, none⟩ = (mcells m)[o]?) ∧ (∀ o, w'.cell? ⟨mx, o, none⟩ = (Mh.mcells x)[o]?) ∧ (∀ o, w'.cell? ⟨w9.heap.size, o, none⟩ = (dcells y.wd)[o]?))
         (first | exact ⟨H11.out.kc, H11.out.cells mz5, H11.out.cells mz2, H11.out.cells mz0⟩ | exact ⟨hkh, hb0, hb1, hb2⟩ | go_keep)
         (first
          | (go_at_call 77; refine ((by first | exact H9b.out | exact H9b.out.drew : OwnD w0 K c core (n + 2) { s with F := F3 } _ _).dset m.ln x.ow y.wd).mono ?_; rintro e w11 ⟨⟨i11, rfl⟩, ho⟩; have H11 := Lib.hid ho; clear ho))
        clear hkh hb0 hb1 hb2
        clear H9b
        have h4 := H11.out.box mz4
        have h7 := H11.out.box mz3
        go_wp2_with (first
         | ((with_reducible refine wpList_load_row (o := ⟨some 175, _, _, _, _, _⟩) rfl 38 (.tmp 7) rfl (w.heap.size + 2) ?lx 38 (#[.int .i64 0, .int .i64 0, .int .i64 0, .int .i64 0, .int .i64 0, .int .i64 0, .int .i64 0, .int .i64 0, .int .i64 0, .int .i64 0, .int .i64 0, .int .i64 0, .int .i64 0, .int .i64 0, .int .i64 0]) (0, 0) _ ?lg Tryz.underlying38 ?ld ?li ?_); (case lx => rfl); (case lg => exact h7); (case ld => rfl); (case li => kernel_rfl))
         | ((with_reducible refine wpList_store_row (o := ⟨none, _, _, _, _, _⟩) rfl 38 (.tmp 4) (.tmp 175) rfl (w.heap.size + 1) (#[.int .i64 0, .int .i64 0, .int .i64 0, .int .i64 0, .int .i64 0, .int .i64 0, .int .i64 0, .int .i64 0, .int .i64 0, .int .i64 0, .int .i64 0, .int .i64 0, .int .i64 0, .int .i64 0, .int .i64 0]) ?sx ?sy 38 ?old ?sg ?si ?so ?s1 ?_); (case sx => rfl); (case sy => rfl); (case old => exact #[.int .i64 0, .int .i64 0, .int .i64 0, .int .i64 0, .int .i64 0, .int .i64 0, .int .i64 0, .int .i64 0, .int .i64 0, .int .i64 0, .int .i64 0, .int .i64 0, .int .i64 0, .int .i64 0, .int .i64 0]); (case sg => exact h4); (case si => kernel_rfl); (case so => rfl); (case s1 => kernel_rfl)))
        exact dtake_ret (r := (m0, false, 0)) rfl rfl rfl rfl (setRow_heap _ _ _ _ _ _ h4) H11.out.setRow4.drop.drop.drop.drop.drop.drop
      ·as_aux_lemma =>
        have hx9 := H9.out.cells mz1
        have hd8 := Lib.hid (H9.out.add (.cells (dcells x.wd) 36))
        have hx10 := hd8.out.cells mz2
        have hy10 := hd8.out.cells mz1
        have hd10 := hd8.out.box mz0
        have hd9 := hd8
        clear hd8
        go_upto_region 34 with fail
        obtain ⟨w10, hw10⟩ : ∃ w10, w10 = (w9.alloc (.cells (dcells x.wd) 36)) := ⟨_, rfl⟩
        rw [← hw10] at hd9
        have H9b := hd9
        change Code.wp _ _ _ _ ((w9.alloc (.cells (dcells x.wd) 36)))
        rw [← hw10]
        clear hd9 hx9 hx10 hy10 hd10 hw10
        have hkh := H9b.out.kc
        have hb0 := H9b.out.cells mz5
        have hb1 := H9b.out.cells mz2
        have hb2 := H9b.out.cells mz0
        go_region_held3 (fun w' => (∀ o, w'.cell? ⟨K.k, o, none⟩ = (kcells c core K)[o]?) ∧ (∀ o, w'.cell? ⟨w.heap.size, o, none⟩ = (mcells m)[o]?) ∧ (∀ o, w'.cell? ⟨mx, o, none⟩ = (Mh.mcells x)[o]?) ∧ (∀ o, w'.cell? ⟨w9.heap.size, o, none⟩ = (dcells x.wd)[o]?))
         (first | exact ⟨H11.out.kc, H11.out.cells mz5, H11.out.cells mz2, H11.out.cells mz0⟩ | exact ⟨hkh, hb0, hb1, hb2⟩ | go_keep)
         (first
          | (go_at_call 77; refine ((by first | exact H9b.out | exact H9b.out.drew : OwnD w0 K c core (n + 2) { s with F := F3 } _ _).dset m.ln x.ow x.wd).mono ?_; rintro e w11 ⟨⟨i11, rfl⟩, ho⟩; have H11 := Lib.hid ho; clear ho))
        clear hkh hb0 hb1 hb2
        clear H9b
        have h4 := H11.out.box mz4
        have h7 := H11.out.box mz3
        go_wp2_with (first
         | ((with_reducible refine wpList_load_row (o := ⟨some 175, _, _, _, _, _⟩) rfl 38 (.tmp 7) rfl (w.heap.size + 2) ?lx 38 (#[.int .i64 0, .int .i64 0, .int .i64 0, .int .i64 0, .int .i64 0, .int .i64 0, .int .i64 0, .int .i64 0, .int .i64 0, .int .i64 0, .int .i64 0, .int .i64 0, .int .i64 0, .int .i64 0, .int .i64 0]) (0, 0) _ ?lg Tryz.underlying38 ?ld ?li ?_); (case lx => rfl); (case lg => exact h7); (case ld => rfl); (case li => kernel_rfl))
         | ((with_reducible refine wpList_store_row (o := ⟨none, _, _, _, _, _⟩) rfl 38 (.tmp 4) (.tmp 175) rfl (w.heap.size + 1) (#[.int .i64 0, .int .i64 0, .int .i64 0, .int .i64 0, .int .i64 0, .int .i64 0, .int .i64 0, .int .i64 0, .int .i64 0, .int .i64 0, .int .i64 0, .int .i64 0, .int .i64 0, .int .i64 0, .int .i64 0]) ?sx ?sy 38 ?old ?sg ?si ?so ?s1 ?_); (case sx => rfl); (case sy => rfl); (case old => exact #[.int .i64 0, .int .i64 0, .int .i64 0, .int .i64 0, .int .i64 0, .int .i64 0, .int .i64 0, .int .i64 0, .int .i64 0, .int .i64 0, .int .i64 0, .int .i64 0, .int .i64 0, .int .i64 0, .int .i64 0]); (case sg => exact h4); (case si => kernel_rfl); (case so => rfl); (case s1 => kernel_rfl)))
        exact dtake_ret (r := (m0, false, 0)) rfl rfl rfl rfl (setRow_heap _ _ _ _ _ _ h4) H11.out.setRow4.drop.drop.drop.drop.drop.drop

end Go.Proofs.YtlfhkjjjocmpbaaGreatDoor.Cc

namespace Go.Proofs.YtlfhkjjjocmpbaaGreatDoor.Cc
open Go Go.RowKit

variable {w0 w w' : World} {bx : Bx} {K : Kb} {c : Cfg} {core n : Int} {s : St}
theorem may_home {m : Msg} (hm : mayM c m = true) : toHome m.kd = false ↔ 4 ≤ m.kd ∧ m.kd ≤ 10 := by
 have hk : isKind m.kd = true := by
  unfold mayM at hm
  simp only [Bool.and_eq_true] at hm
  exact hm.2.2.1
 have := isKind_of hk
 simp [toHome]
 omega
theorem owns_ge (h : Inv c s) (line : Int) : ownsB (look c s line) = decide (2 ≤ (look c s line).st) := by
 have h1 := (h.st line).1
 simp only [Ar.stOk, Bool.and_eq_true, decide_eq_true_eq] at h1
 rw [Bool.eq_iff_iff, owns_st, decide_eq_true_eq]
 omega
theorem ans_same (f : Wb.En → Wb.En) (B : List Wb.En) (line : Int) : (Wb.ansP f B line).1 = (Wb.ansP id B line).1 := by
 rcases hf : Wb.fnd B line with _ | i
 ·rw [Wb.ansP_none _ hf, Wb.ansP_none _ hf]
 ·obtain ⟨x, hx, _⟩ := Wb.fnd_some hf
  rcases Bool.eq_false_or_eq_true x.lv with hv | hv
  ·rw [Wb.ansP_yes _ hf hx hv, Wb.ansP_yes _ hf hx hv]
  ·rw [Wb.ansP_no _ hf hx hv, Wb.ansP_no _ hf hx hv]
theorem ans_keep (f : Wb.En → Wb.En) (B : List Wb.En) (line : Int) (h : (Wb.ansP f B line).1.2 ≠ 0) : (Wb.ansP f B line).2 = B := by
 rcases ans_cases f B line with ⟨_, e⟩ | ⟨i, x, _, _, _, e⟩
 ·exact e
 ·rw [e] at h; exact absurd rfl h

theorem Own.dfwd (h : OwnD w0 K c core n s bx w) (hi : Inv c s) (m : Msg) {f : Wb.En → Wb.En} {ow st : Int} (hk : m.kd = 5 ∧ f = Wb.gone ∧ ow = 4 ∧ st = 0 ∨ m.kd = 4 ∧ f = id ∧ ow = 1 ∧ st = 3) :
  Calls Tryz.prog 81 #[ptr K.k, mv m] w (RetT (tellP c core s f m st ow).1 (OwnD w0 K c core n (tellP c core s f m st ow).2 bx)) := by
 have hks : (m.kd == 5) = true ∧ ow = 4 ∧ st = 0 ∨ (m.kd == 5) = false ∧ ow = 1 ∧ st = 3 := by
  rcases hk with ⟨a, _, b⟩ | ⟨a, _, b⟩
  ·exact .inl ⟨by simpa using a, b⟩
  ·exact .inr ⟨by simp [a], b⟩
 rcases hd : (Wb.ansP id s.B m.ln).1 with ⟨d, er⟩
 refine dfwd_any h m hks rfl hd ?_
 have ho := owns_ge hi m.ln
 have hsame := ans_same f s.B m.ln
 rw [hd] at hsame
 unfold tellP leaveP
 by_cases h2 : 2 ≤ (Go.Proofs.YtlfhkjjjocmpbaaGreatDoor.Cc.look c s m.ln).st
 ·have ho' : ownsB (Go.Proofs.YtlfhkjjjocmpbaaGreatDoor.Cc.look c s m.ln) = true := by rw [ho]; simpa using h2
  refine .inl ⟨h2, ?_, ?_⟩
  ·simp [ho', msg]
  ·simp [ho']
 ·have ho' : ownsB (Go.Proofs.YtlfhkjjjocmpbaaGreatDoor.Cc.look c s m.ln) = false := by rw [ho]; simpa using h2
  refine .inr ⟨h2, ?_⟩
  by_cases he : er = 0
  ·subst he
   refine .inr ⟨rfl, by simp [ho', hsame, msg], ?_⟩
   rcases hk with ⟨a, rfl, _⟩ | ⟨a, rfl, _⟩
   ·exact .inr ⟨by simpa using a, by simp [ho', hsame]⟩
   ·exact .inl ⟨by simp [a], by simp [ho', hsame, Wb.ans_id]⟩
  ·refine .inl ⟨by simpa using he, by simp [ho', hsame, he], ?_⟩
   have hkp := ans_keep f s.B m.ln (by rw [hsame]; exact he)
   simp [ho', hsame, he, hkp]

theorem came_of {er : Int} {F2 F3 : List Mh.Ms} {x : Mh.Ms} {q : Bool} {line : Int} (ho : Mh.oweP F2 line = ((x, q), F3)) :
  (er != 0) = true ∧ (cameP c { s with F := F2 } line er).1 = (m0, false, 7) ∧ (cameP c { s with F := F2 } line er).2 = { s with F := F2 } ∨ (er != 0) = false ∧ (cameP c { s with F := F2 } line er).1 = (m0, false, 0) ∧ (q = false ∧ (cameP c { s with F := F2 } line er).2 = { s with F := F3 } ∨ q = true ∧ (x.gr = true ∧ (cameP c { s with F := F2 } line er).2 = setA c { s with F := F3 } line x.ow (Go.Proofs.YtlfhkjjjocmpbaaGreatDoor.Cc.look c s line).wd ∨ x.gr = false ∧ (cameP c { s with F := F2 } line er).2 = setA c { s with F := F3 } line x.ow x.wd)) := by
 unfold cameP
 by_cases he : er = 0
 ·subst he
  refine .inr ⟨rfl, by simp [ho], ?_⟩
  rcases q with _ | _
  ·exact .inl ⟨rfl, by simp [ho]⟩
  ·refine .inr ⟨rfl, ?_⟩
   have hx : x.ln = line := by
    rcases owe_cases F2 line with e | ⟨i, y, _, hl, _, _, e⟩
    ·rw [ho] at e; simp at e
    ·rw [ho] at e
     obtain ⟨⟨rfl, _⟩, _⟩ := (by simpa using e : (x = y ∧ True) ∧ F3 = _)
     exact hl
   rcases Bool.eq_false_or_eq_true x.gr with g | g
   ·refine .inl ⟨g, ?_⟩
    simp [ho, wordsP, g, hx, setA, Go.Proofs.YtlfhkjjjocmpbaaGreatDoor.Cc.look]
   ·refine .inr ⟨g, ?_⟩
    simp [ho, wordsP, g, setA]
 ·exact .inl ⟨by simpa using he, by simp [he], by simp [he]⟩

theorem Own.dtake (h : OwnD w0 K c core n s bx w) (hn : n ≤ 900) (hi : Inv c s) (hb : Mh.Blk s.F) (m : Msg) :
  Calls Tryz.prog 38 #[ptr K.k, mv m] w (RetT (takeP c core s m).1 (OwnD w0 K c core (n + 2) (takeP c core s m).2 bx)) := by
 have up : ∀ {r : Rp} {s2 : St}, Calls Tryz.prog 38 #[ptr K.k, mv m] w (RetT r (OwnD w0 K c core n s2 bx)) → Calls Tryz.prog 38 #[ptr K.k, mv m] w (RetT r (OwnD w0 K c core (n + 2) s2 bx)) := fun q => q.mono fun e w' ⟨a, b⟩ => ⟨a, b.more (by omega)⟩
 unfold takeP
 by_cases hm : 4 ≤ m.kd ∧ m.kd ≤ 10 ∧ mayM c m = true ∧ m.to = core
 ·rw [if_pos hm]
  obtain ⟨k4, k10, hmay, hto⟩ := hm
  have hh := (may_home hmay).2 ⟨k4, k10⟩
  have ht : (m.to != core) = false := by simpa using hto
  unfold becomeP
  by_cases e4 : m.kd = 4
  ·rw [if_pos e4]
   refine up ?_
   rcases ht4 : tellP c core s id m 3 1 with ⟨⟨mm, is, er⟩, s2⟩
   refine dtake_fwd h m hmay hh ht (.inl (by simpa using e4)) fun w bx hw => ?_
   have := hw.dfwd hi m (f := id) (ow := 1) (st := 3) (.inr ⟨e4, rfl, rfl, rfl⟩)
   rwa [ht4] at this
  ·rw [if_neg e4]
   by_cases e5 : m.kd = 5
   ·rw [if_pos e5]
    refine up ?_
    rcases ht4 : tellP c core s Wb.gone m 0 4 with ⟨⟨mm, is, er⟩, s2⟩
    refine dtake_fwd h m hmay hh ht (.inr ⟨by simpa using e4, by simpa using e5⟩) fun w bx hw => ?_
    have := hw.dfwd hi m (f := Wb.gone) (ow := 4) (st := 0) (.inl ⟨e5, rfl, rfl, rfl⟩)
    rwa [ht4] at this
   ·rw [if_neg e5]
    have b4 : (m.kd == 4) = false := by simpa using e4
    have b5 : (m.kd == 5) = false := by simpa using e5
    by_cases e6 : m.kd = 6
    ·rw [if_pos e6]
     refine up ?_
     have b6 : (m.kd == 6) = true := by simpa using e6
     unfold forgetP
     have ho := owns_ge hi m.ln
     by_cases h2 : 2 ≤ (Go.Proofs.YtlfhkjjjocmpbaaGreatDoor.Cc.look c s m.ln).st
     ·rw [if_pos (by rw [ho]; simpa using h2)]
      exact dtake_inv_no h m hmay hh ht b4 b5 b6 rfl h2
     ·rw [if_neg (by rw [ho]; simpa using h2)]
      by_cases h1 : (Go.Proofs.YtlfhkjjjocmpbaaGreatDoor.Cc.look c s m.ln).st = 1
      ·rw [if_pos h1]
       exact dtake_inv_drop h m hmay hh ht b4 b5 b6 rfl h2 (by simpa using h1)
      ·rw [if_neg h1]
       exact dtake_inv h m hmay hh ht b4 b5 b6 rfl h2 (by simpa using h1)
    ·rw [if_neg e6]
     have b6 : (m.kd == 6) = false := by simpa using e6
     by_cases e7 : m.kd = 7
     ·rw [if_pos e7]
      unfold fillP
      rcases ho : Mh.oweP (Mh.chg s.F m.ln (Mh.dataF m.ac m.ow (words m))).2 m.ln with ⟨⟨x, q⟩, F3⟩
      exact dtake_fill h m hmay hh ht b4 b5 b6 (by simp [e7]) rfl rfl ho (.inl ⟨by simpa using e7, Lib.hid fun w bx hw => hw.ddata m.ln m.ac m.ow (words m)⟩) (came_of ho)
     ·rw [if_neg e7]
      have b7 : (m.kd == 7) = false := by simpa using e7
      by_cases e8 : m.kd = 8
      ·rw [if_pos e8]
       unfold grantP
       by_cases h3 : (Go.Proofs.YtlfhkjjjocmpbaaGreatDoor.Cc.look c s m.ln).st = 3
       ·rw [if_neg (by simpa using h3)]
        rcases ho : Mh.oweP (Mh.chg s.F m.ln (Mh.grantF m.ac)).2 m.ln with ⟨⟨x, q⟩, F3⟩
        exact dtake_fill h m hmay hh ht b4 b5 b6 (by simp [e8]) rfl rfl ho (.inr (.inl ⟨b7, by simpa using e8, by simpa using h3, Lib.hid fun w bx hw => hw.dgrant hb m.ln m.ac⟩)) (came_of ho)
       ·rw [if_pos h3]
        rcases ho : Mh.oweP s.F m.ln with ⟨⟨x, q⟩, F3⟩
        exact dtake_fill (er := 7) h m hmay hh ht b4 b5 b6 (by simp [e8]) rfl rfl ho (.inr (.inr (.inl ⟨b7, by simpa using e8, by simpa using h3, rfl, rfl⟩))) (.inl ⟨by decide, rfl, rfl⟩)
      ·rw [if_neg e8]
       have b8 : (m.kd == 8) = false := by simpa using e8
       by_cases e9 : m.kd = 9
       ·rw [if_pos e9]
        unfold countP
        rcases ho : Mh.oweP (Mh.chg s.F m.ln Mh.ackF).2 m.ln with ⟨⟨x, q⟩, F3⟩
        exact dtake_fill h m hmay hh ht b4 b5 b6 (by simp [e9]) rfl rfl ho (.inr (.inr (.inr ⟨b7, b8, by simpa using e9, Lib.hid fun w bx hw => hw.dack hn m.ln⟩))) (came_of ho)
       ·rw [if_neg e9]
        refine up ?_
        have e10 : m.kd = 10 := by omega
        unfold dropP
        rcases hd : Wb.dropP s.B m.ln with ⟨er, B⟩
        by_cases he : er = 0
        ·subst he
         exact dtake_drop h m hmay hh ht b4 b5 b6 b7 b8 (by simpa using e9) (by simpa using e10) hd rfl
        ·have hg : (er != 0) = true := by simpa using he
         simp only [if_pos he]
         exact dtake_drop_no h m hmay hh ht b4 b5 b6 b7 b8 (by simpa using e9) (by simpa using e10) hd hg
 ·rw [if_neg hm]
  refine up (dtake_no h m fun ⟨a, b, d⟩ => hm ?_)
  have := (may_home a).1 b
  exact ⟨this.1, this.2, a, d⟩

end Go.Proofs.YtlfhkjjjocmpbaaGreatDoor.Cc
