import Derived.Test.YtlfhkjjjocmpbaaGreatDoorSx
import Derived.Test.YtlfhkjjjocmpbaaGreatDoorQCdC
import Derived.BigQuiet
import Derived.Deep.CutBlock
import Derived.Deep.DeepCutAuto

namespace Go.Proofs.YtlfhkjjjocmpbaaGreatDoor.Cc
open Go Go.RowKit
open List (setIfInBounds_toArray set_cons_zero set_cons_succ)

variable {w0 w w' : World} {bx : Bx} {K : Kb} {c : Cfg} {core n : Int} {s : St}
set_option maxRecDepth 100000 in
set_option maxHeartbeats 8000000 in
theorem ddo_any (h : OwnD w0 K c core n s bx w) (xk xa xv : Int) {dz d : Wd} {nz nn er0 er1 : Int} (hz : Me.apP c d0 ⟨xk, xa, xv⟩ = (dz, nz, er0)) {line : Int} {y : Ar.Wy} (hy : look c s line = y) (hp : Me.apP c y.wd ⟨xk, xa, xv⟩ = (d, nn, er1)) {r : Int × Int} {s2 : St}
  (hw : (er0 != 0) = true ∧ r = (0, er0) ∧ s2 = s ∨ (er0 != 0) = false ∧ (0 ≤ xa ∧ xa ≤ 8191 ∧ line = xa / c.wo) ∧ ((xk == 1) = true ∧ (xk != 1) = false ∧ (canB y 1 = false ∧ r = (0, 5) ∧ s2 = s ∨ canB y 1 = true ∧ r = (nn, 0) ∧ s2 = s) ∨ (xk == 1) = false ∧ (xk != 1) = true ∧ (canB y 2 = false ∧ r = (0, 5) ∧ s2 = s ∨ canB y 2 = true ∧ r = (nn, 0) ∧ s2 = setA c s line 4 d))) :
  Calls Tryz.prog 40 #[ptr K.k, Pg.ov ⟨xk, xa, xv⟩] w fun e w' => e = .returned (.tuple #[.int .i64 r.1, .int .i64 r.2]) ∧ OwnD w0 K c core n s2 bx w' := by
 have H0 := Lib.hid (h.add (.cells #[.int .i64 xk, .int .i64 xa, .int .i64 xv] 43))
 have HZ := Lib.hid (fun w => dapply c d0 ⟨xk, xa, xv⟩ w)
 rw [hz] at HZ
 have HP := Lib.hid (fun w => dapply c y.wd ⟨xk, xa, xv⟩ w)
 rw [hp] at HP
 have HFd := Lib.hid (fun w1 bx (h : OwnD w0 K c core n s bx w1) => h.dfind line)
 rw [hy] at HFd
 have HC1 := Lib.hid (fun w1 bx (h : OwnD w0 K c core n s bx w1) => h.dcan line 1)
 have HC2 := Lib.hid (fun w1 bx (h : OwnD w0 K c core n s bx w1) => h.dcan line 2)
 rw [hy] at HC1 HC2
 obtain ⟨hw1, hw2⟩ := (ok_pows c h.nums.1).1.2
 have HWo := Lib.hid (And.intro hw1 hw2)
 have HW := Lib.hid hw
 generalize there c s line = yq at *
 generalize (Ar.fnd c s.A line).2.1 = yi at *
 clear h hz hp hy hw hw1 hw2
 go_enter Tryz.func40, Tryz.ntmps40
 go_upto_region 1 with fail
 obtain ⟨w1, hw1⟩ : ∃ w1, w1 = w.alloc (.cells #[.int .i64 xk, .int .i64 xa, .int .i64 xv] 43) := ⟨_, rfl⟩
 rw [← hw1] at H0
 have H1 := H0
 change Code.wp _ _ _ _ (w.alloc (.cells #[.int .i64 xk, .int .i64 xa, .int .i64 xv] 43))
 rw [← hw1]
 clear hw1 H0
 go_cut [6, 7, 8] (fun s6 s7 s8 wx => ∃ mz, s6 = .pointer (some ⟨mz, 0, none⟩) ∧ s7 = .int .i64 nz ∧ s8 = .int .i64 er0 ∧ OwnD w0 K c core n s ((mz, .cells (dcells dz) 36) :: (w.heap.size, .cells (#[.int .i64 xk, .int .i64 xa, .int .i64 xv]) 43) :: bx) wx)
 case first =>
  as_aux_lemma =>
   refine wp_region_noPanic ?_
   refine wp_region_held_drew (S := (fun w' : World => (∀ o, w'.cell? ⟨K.k, o, none⟩ = (kcells c core K)[o]?) ∧ (∀ o, w'.cell? ⟨w.heap.size, o, none⟩ = (#[.int .i64 xk, .int .i64 xa, .int .i64 xv])[o]?))) (by kernel_rfl) ⟨H1.out.kc, H1.out.cells mz0⟩ (fun hh0 => ?_)
   replace H1 := Lib.hid H1.out.drew
   generalize World.drew w1 = w1 at *
   refine tk 14 0 ⟨some 17, _, _, _, _, _⟩ (ptr K.k) rfl (by kernel_rfl) (by rfl) hh0 ?_ ?_
   ·intro w' _
    go_simp
   simp only [Act.put, setIfInBounds_toArray, set_cons_zero, set_cons_succ]
   refine tk 13 1 ⟨some 18, _, _, _, _, _⟩ (ptr K.k) rfl (by kernel_rfl) (by rfl) hh0 ?_ ?_
   ·intro w' _
    go_simp
   simp only [Act.put, setIfInBounds_toArray, set_cons_zero, set_cons_succ]
   refine tk 12 2 ⟨some 19, _, _, _, _, _⟩ (ptr K.k) rfl (by kernel_rfl) (by rfl) hh0 ?_ ?_
   ·intro w' _
    go_simp
   simp only [Act.put, setIfInBounds_toArray, set_cons_zero, set_cons_succ]
   refine tk 11 3 ⟨some 20, _, _, _, _, _⟩ (cv c) rfl (by kernel_rfl) (by rfl) hh0 ?_ ?_
   ·rintro w' ⟨c0, -⟩
    go_simp
   simp only [Act.put, setIfInBounds_toArray, set_cons_zero, set_cons_succ]
   refine tk 10 4 ⟨some 21, _, _, _, _, _⟩ (.agg (#[.int .i64 0, .int .i64 0, .int .i64 0, .int .i64 0, .int .i64 0, .int .i64 0, .int .i64 0, .int .i64 0])) rfl (by kernel_rfl) (by rfl) hh0 ?_ ?_
   ·intro w' _
    go_simp
   simp only [Act.put, setIfInBounds_toArray, set_cons_zero, set_cons_succ]
   refine tk 9 5 ⟨some 22, _, _, _, _, _⟩ (.agg (#[.int .i64 xk, .int .i64 xa, .int .i64 xv])) rfl (by kernel_rfl) (by rfl) hh0 ?_ ?_
   ·rintro w' ⟨-, c0⟩
    go_simp
   simp only [Act.put, setIfInBounds_toArray, set_cons_zero, set_cons_succ]
   refine wpAnyH_ready (fuel := 8) (rs := [6, 11]) (by kernel_rfl) (by simp) ?_
   refine AllReadyH.cons (o := ⟨some 23, _, _, _, _, _⟩) rfl (fun P hP => ?_) (AllReadyH.cons (o := ⟨some 6, _, _, _, _, _⟩) rfl (fun P hP => ?_) AllReadyH.nil)
   ·go_simp
    refine (HZ.out _).mono ?_
    rintro e w2 ⟨rfl, hb⟩
    have Hc := Lib.hid (H1.out.step hb)
    clear hb
    show P _ _
    refine hP.out _ _ (⟨Hc.out.kc, Hc.out.cells mz0⟩) (fun hh1 => ?_)
    clear hP P hh0
    refine tk 7 7 ⟨some 16, _, _, _, _, _⟩ (.tuple #[.agg (dcells dz), .int .i64 nz, .int .i64 er0]) rfl (by kernel_rfl) (by rfl) hh1 ?_ ?_
    ·intro w' _
     go_simp
    simp only [Act.put, setIfInBounds_toArray, set_cons_zero, set_cons_succ]
    refine tk 6 8 ⟨some 24, _, _, _, _, _⟩ (.agg (dcells dz)) rfl (by kernel_rfl) (by rfl) hh1 ?_ ?_
    ·intro w' _
     go_simp
    simp only [Act.put, setIfInBounds_toArray, set_cons_zero, set_cons_succ]
    refine tk 5 9 ⟨some 25, _, _, _, _, _⟩ (.int .i64 nz) rfl (by kernel_rfl) (by rfl) hh1 ?_ ?_
    ·intro w' _
     go_simp
    simp only [Act.put, setIfInBounds_toArray, set_cons_zero, set_cons_succ]
    refine tk 4 10 ⟨some 26, _, _, _, _, _⟩ (.int .i64 er0) rfl (by kernel_rfl) (by rfl) hh1 ?_ ?_
    ·intro w' _
     go_simp
    simp only [Act.put, setIfInBounds_toArray, set_cons_zero, set_cons_succ]
    refine rd 3 11 ⟨some 6, _, _, _, _, _⟩ rfl (by kernel_rfl) (fun P hP => ?_)
    go_simp
    have Hca := Lib.hid (Hc.out.add (.cells #[.int .i64 0, .int .i64 0, .int .i64 0, .int .i64 0, .int .i64 0, .int .i64 0, .int .i64 0, .int .i64 0] 36))
    show P _ _
    refine hP.out _ _ (⟨Hca.out.kc, Hca.out.cells mz1⟩) (fun hh2 => ?_)
    clear hP P hh1
    try simp only [Act.put, setIfInBounds_toArray, set_cons_zero, set_cons_succ]
    refine rd 2 12 ⟨none, _, _, _, _, _⟩ rfl (by kernel_rfl) (fun P hP => ?_)
    rw [if_pos (by rfl)]
    refine wp_store_row 36 (.tmp 6) (.tmp 24) rfl (w2.heap.size) (dcells dz) rfl rfl 36 (#[.int .i64 0, .int .i64 0, .int .i64 0, .int .i64 0, .int .i64 0, .int .i64 0, .int .i64 0, .int .i64 0]) (Hca.out.box mz0) (by kernel_rfl) rfl (by kernel_rfl) ?_
    have Hcas := Lib.hid (Hca.out.setRow (cs' := dcells dz))
    refine hP.out _ _ (⟨Hcas.out.kc, Hcas.out.cells mz1⟩) (fun hh3 => ?_)
    clear hP P hh2
    simp only [Act.put]
    refine tk 1 13 ⟨some 7, _, _, _, _, _⟩ (.int .i64 nz) rfl (by kernel_rfl) (by rfl) hh3 ?_ ?_
    ·intro w' _
     go_simp
    simp only [Act.put, setIfInBounds_toArray, set_cons_zero, set_cons_succ]
    refine tk 0 14 ⟨some 8, _, _, _, _, _⟩ (.int .i64 er0) rfl (by kernel_rfl) (by rfl) hh3 ?_ ?_
    ·intro w' _
     go_simp
    simp only [Act.put, setIfInBounds_toArray, set_cons_zero, set_cons_succ]
    refine wpAnyH_done (by kernel_rfl) ?_ _
    refine NoPanic.normal ?_
    clear hh3
    go_wp2
    go_meet
    case rel => exact ⟨_, rfl, rfl, rfl, Hcas.out⟩
   ·go_simp
    have H1a := Lib.hid (H1.out.add (.cells #[.int .i64 0, .int .i64 0, .int .i64 0, .int .i64 0, .int .i64 0, .int .i64 0, .int .i64 0, .int .i64 0] 36))
    show P _ _
    refine hP.out _ _ (⟨H1a.out.kc, H1a.out.cells mz1⟩) (fun hh1 => ?_)
    clear hP P hh0
    try simp only [Act.put, setIfInBounds_toArray, set_cons_zero, set_cons_succ]
    refine rd 7 6 ⟨some 23, _, _, _, _, _⟩ rfl (by kernel_rfl) (fun P hP => ?_)
    go_simp
    refine (HZ.out _).mono ?_
    rintro e w2 ⟨rfl, hb⟩
    have Hc := Lib.hid (H1a.out.step hb)
    clear hb
    show P _ _
    refine hP.out _ _ (⟨Hc.out.kc, Hc.out.cells mz1⟩) (fun hh2 => ?_)
    clear hP P hh1
    refine tk 6 7 ⟨some 16, _, _, _, _, _⟩ (.tuple #[.agg (dcells dz), .int .i64 nz, .int .i64 er0]) rfl (by kernel_rfl) (by rfl) hh2 ?_ ?_
    ·intro w' _
     go_simp
    simp only [Act.put, setIfInBounds_toArray, set_cons_zero, set_cons_succ]
    refine tk 5 8 ⟨some 24, _, _, _, _, _⟩ (.agg (dcells dz)) rfl (by kernel_rfl) (by rfl) hh2 ?_ ?_
    ·intro w' _
     go_simp
    simp only [Act.put, setIfInBounds_toArray, set_cons_zero, set_cons_succ]
    refine tk 4 9 ⟨some 25, _, _, _, _, _⟩ (.int .i64 nz) rfl (by kernel_rfl) (by rfl) hh2 ?_ ?_
    ·intro w' _
     go_simp
    simp only [Act.put, setIfInBounds_toArray, set_cons_zero, set_cons_succ]
    refine tk 3 10 ⟨some 26, _, _, _, _, _⟩ (.int .i64 er0) rfl (by kernel_rfl) (by rfl) hh2 ?_ ?_
    ·intro w' _
     go_simp
    simp only [Act.put, setIfInBounds_toArray, set_cons_zero, set_cons_succ]
    refine rd 2 12 ⟨none, _, _, _, _, _⟩ rfl (by kernel_rfl) (fun P hP => ?_)
    rw [if_pos (by rfl)]
    refine wp_store_row 36 (.tmp 6) (.tmp 24) rfl (w1.heap.size) (dcells dz) rfl rfl 36 (#[.int .i64 0, .int .i64 0, .int .i64 0, .int .i64 0, .int .i64 0, .int .i64 0, .int .i64 0, .int .i64 0]) (Hc.out.box mz0) (by kernel_rfl) rfl (by kernel_rfl) ?_
    have Hcs := Lib.hid (Hc.out.setRow (cs' := dcells dz))
    refine hP.out _ _ (⟨Hcs.out.kc, Hcs.out.cells mz1⟩) (fun hh3 => ?_)
    clear hP P hh2
    simp only [Act.put]
    refine tk 1 13 ⟨some 7, _, _, _, _, _⟩ (.int .i64 nz) rfl (by kernel_rfl) (by rfl) hh3 ?_ ?_
    ·intro w' _
     go_simp
    simp only [Act.put, setIfInBounds_toArray, set_cons_zero, set_cons_succ]
    refine tk 0 14 ⟨some 8, _, _, _, _, _⟩ (.int .i64 er0) rfl (by kernel_rfl) (by rfl) hh3 ?_ ?_
    ·intro w' _
     go_simp
    simp only [Act.put, setIfInBounds_toArray, set_cons_zero, set_cons_succ]
    refine wpAnyH_done (by kernel_rfl) ?_ _
    refine NoPanic.normal ?_
    clear hh3
    go_wp2
    go_meet
    case rel => exact ⟨_, rfl, rfl, rfl, Hcs.out⟩
 case rest =>
  obtain ⟨mz, rfl, rfl, rfl, h3⟩ := hcut
  have H3 := Lib.hid h3
  clear h3 H1 HZ
  obtain ⟨w3, rfl⟩ : ∃ w3 : World, w3 = wc := ⟨_, rfl⟩
  rcases HW.out with ⟨he, rfl, rfl⟩ | ⟨he, ⟨g0, g1, rfl⟩, hk⟩
  ·clear HFd HC1 HC2 HP HW
   go_wp2
   go_ret2
   exact ⟨rfl, H3.out.drop.drop⟩
  ·have HKK := Lib.hid hk
   have hk3 := H3.out.kc
   have ho3 := H3.out.cells mz1
   obtain ⟨hw1, hw2⟩ := HWo.out
   have gne : ¬ c.wo = 0 := by omega
   have gq0 : 0 ≤ xa / c.wo := Int.ediv_nonneg g0 (by omega)
   have gq1 : xa / c.wo ≤ xa := Int.ediv_le_self _ g0
   have gdv : xa.tdiv c.wo = xa / c.wo := Int.tdiv_eq_ediv_of_nonneg g0
   have gwr : IntKind.i64.wrap (xa / c.wo) = xa / c.wo := wrap_small _ gq0 (by omega)
   generalize xa / c.wo = line at *
   clear hk HW
   go_wp2_with fail
   go_quiet (fail)
   generalize hw4 : World.drewN w3 _ = w4
   replace H3 : Hid (OwnD w0 K c core n s _ w4) := Lib.hid (by rw [← hw4]; exact H3.out.drewN _)
   clear hk3 ho3 hw4 g0 g1 hw1 hw2 gne gq0 gq1 gdv gwr HWo
   have hk4 := H3.out.kc
   go_wp2_with fail
   refine (HFd.out _ _ H3.out).mono ?_
   rintro e w5 ⟨rfl, hb5⟩
   have H5 := Lib.hid ((H3.out.step hb5).add (.cells (Ar.ycells y) 69))
   have ho5 := H5.out.cells mz2
   clear hb5 hk4 H3 HFd
   rcases HKK.out with ⟨k1, k2, hl⟩ | ⟨k1, k2, hl⟩
   ·have HL := Lib.hid hl
    clear hl HKK HC2
    go_wp2_with fail
    refine (HC1.out _ _ H5.out).mono ?_
    rintro e w6 ⟨rfl, hb6⟩
    have H6 := Lib.hid (H5.out.step hb6)
    have ho6 := H6.out.cells mz2
    generalize w5.heap.size = my at *
    clear hb6 ho5 H5 HC1
    rcases HL.out with ⟨hl, rfl, rfl⟩ | ⟨hl, rfl, hs⟩
    ·rw [hl]
     clear hl HL HP
     go_wp2
     go_ret2
     exact ⟨rfl, H6.out.drop.drop.drop⟩
    ·rw [hl]
     have HS2 := Lib.hid hs
     clear hl HL hs
     go_upto_region 8 with fail
     go_cut [13, 14, 15] (fun s13 s14 s15 wx => ∃ md, s13 = .pointer (some ⟨md, 0, none⟩) ∧ s14 = .int .i64 nn ∧ s15 = .int .i64 er1 ∧ OwnD w0 K c core n s ((md, .cells (dcells d) 36) :: (my, .cells (Ar.ycells y) 69) :: (mz, .cells (dcells dz) 36) :: (w.heap.size, .cells (#[.int .i64 xk, .int .i64 xa, .int .i64 xv]) 43) :: bx) wx)
     case first =>
      as_aux_lemma =>
      clear ho6
      refine wp_region_noPanic ?_
      refine wp_region_held_drew (S := (fun w' : World => (∀ o, w'.cell? ⟨K.k, o, none⟩ = (kcells c core K)[o]?) ∧ (∀ o, w'.cell? ⟨my, o, none⟩ = (Ar.ycells y)[o]?) ∧ (∀ o, w'.cell? ⟨w.heap.size, o, none⟩ = (#[.int .i64 xk, .int .i64 xa, .int .i64 xv])[o]?))) (by kernel_rfl) ⟨H6.out.kc, H6.out.cells mz0, H6.out.cells mz2⟩ (fun hh0 => ?_)
      replace H6 := Lib.hid H6.out.drew
      generalize World.drew w6 = w6 at *
      refine tk 15 0 ⟨some 69, _, _, _, _, _⟩ (ptr K.k) rfl (by kernel_rfl) (by rfl) hh0 ?_ ?_
      ·intro w' _
       go_simp
      simp only [Act.put, setIfInBounds_toArray, set_cons_zero, set_cons_succ]
      refine tk 14 1 ⟨some 70, _, _, _, _, _⟩ (ptr K.k) rfl (by kernel_rfl) (by rfl) hh0 ?_ ?_
      ·intro w' _
       go_simp
      simp only [Act.put, setIfInBounds_toArray, set_cons_zero, set_cons_succ]
      refine tk 13 2 ⟨some 71, _, _, _, _, _⟩ (ptr K.k) rfl (by kernel_rfl) (by rfl) hh0 ?_ ?_
      ·intro w' _
       go_simp
      simp only [Act.put, setIfInBounds_toArray, set_cons_zero, set_cons_succ]
      refine tk 12 3 ⟨some 72, _, _, _, _, _⟩ (cv c) rfl (by kernel_rfl) (by rfl) hh0 ?_ ?_
      ·rintro w' ⟨c0, -, -⟩
       go_simp
      simp only [Act.put, setIfInBounds_toArray, set_cons_zero, set_cons_succ]
      refine tk 11 4 ⟨some 73, _, _, _, _, _⟩ (.pointer (some ⟨my, 2, none⟩)) rfl (by kernel_rfl) (by rfl) hh0 ?_ ?_
      ·intro w' _
       go_simp
      simp only [Act.put, setIfInBounds_toArray, set_cons_zero, set_cons_succ]
      refine tk 10 5 ⟨some 74, _, _, _, _, _⟩ (.agg (dcells y.wd)) rfl (by kernel_rfl) (by rfl) hh0 ?_ ?_
      ·rintro w' ⟨-, c0, -⟩
       go_simp
      simp only [Act.put, setIfInBounds_toArray, set_cons_zero, set_cons_succ]
      refine tk 9 6 ⟨some 75, _, _, _, _, _⟩ (.agg (#[.int .i64 xk, .int .i64 xa, .int .i64 xv])) rfl (by kernel_rfl) (by rfl) hh0 ?_ ?_
      ·rintro w' ⟨-, -, c0⟩
       go_simp
      simp only [Act.put, setIfInBounds_toArray, set_cons_zero, set_cons_succ]
      refine wpAnyH_ready (fuel := 8) (rs := [7, 12]) (by kernel_rfl) (by simp) ?_
      refine AllReadyH.cons (o := ⟨some 76, _, _, _, _, _⟩) rfl (fun P hP => ?_) (AllReadyH.cons (o := ⟨some 13, _, _, _, _, _⟩) rfl (fun P hP => ?_) AllReadyH.nil)
      ·go_simp
       refine (HP.out _).mono ?_
       rintro e w7 ⟨rfl, hb⟩
       have Hc := Lib.hid (H6.out.step hb)
       clear hb
       show P _ _
       refine hP.out _ _ (⟨Hc.out.kc, Hc.out.cells mz0, Hc.out.cells mz2⟩) (fun hh1 => ?_)
       clear hP P hh0
       refine tk 7 8 ⟨some 68, _, _, _, _, _⟩ (.tuple #[.agg (dcells d), .int .i64 nn, .int .i64 er1]) rfl (by kernel_rfl) (by rfl) hh1 ?_ ?_
       ·intro w' _
        go_simp
       simp only [Act.put, setIfInBounds_toArray, set_cons_zero, set_cons_succ]
       refine tk 6 9 ⟨some 77, _, _, _, _, _⟩ (.agg (dcells d)) rfl (by kernel_rfl) (by rfl) hh1 ?_ ?_
       ·intro w' _
        go_simp
       simp only [Act.put, setIfInBounds_toArray, set_cons_zero, set_cons_succ]
       refine tk 5 10 ⟨some 78, _, _, _, _, _⟩ (.int .i64 nn) rfl (by kernel_rfl) (by rfl) hh1 ?_ ?_
       ·intro w' _
        go_simp
       simp only [Act.put, setIfInBounds_toArray, set_cons_zero, set_cons_succ]
       refine tk 4 11 ⟨some 79, _, _, _, _, _⟩ (.int .i64 er1) rfl (by kernel_rfl) (by rfl) hh1 ?_ ?_
       ·intro w' _
        go_simp
       simp only [Act.put, setIfInBounds_toArray, set_cons_zero, set_cons_succ]
       refine rd 3 12 ⟨some 13, _, _, _, _, _⟩ rfl (by kernel_rfl) (fun P hP => ?_)
       go_simp
       have Hca := Lib.hid (Hc.out.add (.cells #[.int .i64 0, .int .i64 0, .int .i64 0, .int .i64 0, .int .i64 0, .int .i64 0, .int .i64 0, .int .i64 0] 36))
       show P _ _
       refine hP.out _ _ (⟨Hca.out.kc, Hca.out.cells mz1, Hca.out.cells mz3⟩) (fun hh2 => ?_)
       clear hP P hh1
       try simp only [Act.put, setIfInBounds_toArray, set_cons_zero, set_cons_succ]
       refine rd 2 13 ⟨none, _, _, _, _, _⟩ rfl (by kernel_rfl) (fun P hP => ?_)
       rw [if_pos (by rfl)]
       refine wp_store_row 36 (.tmp 13) (.tmp 77) rfl (w7.heap.size) (dcells d) rfl rfl 36 (#[.int .i64 0, .int .i64 0, .int .i64 0, .int .i64 0, .int .i64 0, .int .i64 0, .int .i64 0, .int .i64 0]) (Hca.out.box mz0) (by kernel_rfl) rfl (by kernel_rfl) ?_
       have Hcas := Lib.hid (Hca.out.setRow (cs' := dcells d))
       refine hP.out _ _ (⟨Hcas.out.kc, Hcas.out.cells mz1, Hcas.out.cells mz3⟩) (fun hh3 => ?_)
       clear hP P hh2
       simp only [Act.put]
       refine tk 1 14 ⟨some 14, _, _, _, _, _⟩ (.int .i64 nn) rfl (by kernel_rfl) (by rfl) hh3 ?_ ?_
       ·intro w' _
        go_simp
       simp only [Act.put, setIfInBounds_toArray, set_cons_zero, set_cons_succ]
       refine tk 0 15 ⟨some 15, _, _, _, _, _⟩ (.int .i64 er1) rfl (by kernel_rfl) (by rfl) hh3 ?_ ?_
       ·intro w' _
        go_simp
       simp only [Act.put, setIfInBounds_toArray, set_cons_zero, set_cons_succ]
       refine wpAnyH_done (by kernel_rfl) ?_ _
       refine NoPanic.normal ?_
       clear hh3
       go_wp2
       go_meet
       case rel => exact ⟨_, rfl, rfl, rfl, Hcas.out⟩
      ·go_simp
       have H6a := Lib.hid (H6.out.add (.cells #[.int .i64 0, .int .i64 0, .int .i64 0, .int .i64 0, .int .i64 0, .int .i64 0, .int .i64 0, .int .i64 0] 36))
       show P _ _
       refine hP.out _ _ (⟨H6a.out.kc, H6a.out.cells mz1, H6a.out.cells mz3⟩) (fun hh1 => ?_)
       clear hP P hh0
       try simp only [Act.put, setIfInBounds_toArray, set_cons_zero, set_cons_succ]
       refine rd 7 7 ⟨some 76, _, _, _, _, _⟩ rfl (by kernel_rfl) (fun P hP => ?_)
       go_simp
       refine (HP.out _).mono ?_
       rintro e w7 ⟨rfl, hb⟩
       have Hc := Lib.hid (H6a.out.step hb)
       clear hb
       show P _ _
       refine hP.out _ _ (⟨Hc.out.kc, Hc.out.cells mz1, Hc.out.cells mz3⟩) (fun hh2 => ?_)
       clear hP P hh1
       refine tk 6 8 ⟨some 68, _, _, _, _, _⟩ (.tuple #[.agg (dcells d), .int .i64 nn, .int .i64 er1]) rfl (by kernel_rfl) (by rfl) hh2 ?_ ?_
       ·intro w' _
        go_simp
       simp only [Act.put, setIfInBounds_toArray, set_cons_zero, set_cons_succ]
       refine tk 5 9 ⟨some 77, _, _, _, _, _⟩ (.agg (dcells d)) rfl (by kernel_rfl) (by rfl) hh2 ?_ ?_
       ·intro w' _
        go_simp
       simp only [Act.put, setIfInBounds_toArray, set_cons_zero, set_cons_succ]
       refine tk 4 10 ⟨some 78, _, _, _, _, _⟩ (.int .i64 nn) rfl (by kernel_rfl) (by rfl) hh2 ?_ ?_
       ·intro w' _
        go_simp
       simp only [Act.put, setIfInBounds_toArray, set_cons_zero, set_cons_succ]
       refine tk 3 11 ⟨some 79, _, _, _, _, _⟩ (.int .i64 er1) rfl (by kernel_rfl) (by rfl) hh2 ?_ ?_
       ·intro w' _
        go_simp
       simp only [Act.put, setIfInBounds_toArray, set_cons_zero, set_cons_succ]
       refine rd 2 13 ⟨none, _, _, _, _, _⟩ rfl (by kernel_rfl) (fun P hP => ?_)
       rw [if_pos (by rfl)]
       refine wp_store_row 36 (.tmp 13) (.tmp 77) rfl (w6.heap.size) (dcells d) rfl rfl 36 (#[.int .i64 0, .int .i64 0, .int .i64 0, .int .i64 0, .int .i64 0, .int .i64 0, .int .i64 0, .int .i64 0]) (Hc.out.box mz0) (by kernel_rfl) rfl (by kernel_rfl) ?_
       have Hcs := Lib.hid (Hc.out.setRow (cs' := dcells d))
       refine hP.out _ _ (⟨Hcs.out.kc, Hcs.out.cells mz1, Hcs.out.cells mz3⟩) (fun hh3 => ?_)
       clear hP P hh2
       simp only [Act.put]
       refine tk 1 14 ⟨some 14, _, _, _, _, _⟩ (.int .i64 nn) rfl (by kernel_rfl) (by rfl) hh3 ?_ ?_
       ·intro w' _
        go_simp
       simp only [Act.put, setIfInBounds_toArray, set_cons_zero, set_cons_succ]
       refine tk 0 15 ⟨some 15, _, _, _, _, _⟩ (.int .i64 er1) rfl (by kernel_rfl) (by rfl) hh3 ?_ ?_
       ·intro w' _
        go_simp
       simp only [Act.put, setIfInBounds_toArray, set_cons_zero, set_cons_succ]
       refine wpAnyH_done (by kernel_rfl) ?_ _
       refine NoPanic.normal ?_
       clear hh3
       go_wp2
       go_meet
       case rel => exact ⟨_, rfl, rfl, rfl, Hcs.out⟩
     case rest =>
      obtain ⟨md, rfl, rfl, rfl, h8⟩ := hcut
      have H8 := Lib.hid h8
      clear h8 H6 HP ho6
      have ho8 := H8.out.cells mz3
      go_wp2
      go_ret2
      exact ⟨rfl, by rw [HS2.out]; exact H8.out.drop.drop.drop.drop⟩
   ·have HL := Lib.hid hl
    clear hl HKK HC1
    go_wp2_with fail
    refine (HC2.out _ _ H5.out).mono ?_
    rintro e w6 ⟨rfl, hb6⟩
    have H6 := Lib.hid (H5.out.step hb6)
    have ho6 := H6.out.cells mz2
    generalize w5.heap.size = my at *
    clear hb6 ho5 H5 HC2
    rcases HL.out with ⟨hl, rfl, rfl⟩ | ⟨hl, rfl, rfl⟩
    ·rw [hl]
     clear hl HL HP
     go_wp2
     go_ret2
     exact ⟨rfl, H6.out.drop.drop.drop⟩
    ·rw [hl]
     clear hl HL
     go_upto_region 8 with fail
     go_cut [13, 14, 15] (fun s13 s14 s15 wx => ∃ md, s13 = .pointer (some ⟨md, 0, none⟩) ∧ s14 = .int .i64 nn ∧ s15 = .int .i64 er1 ∧ OwnD w0 K c core n s ((md, .cells (dcells d) 36) :: (my, .cells (Ar.ycells y) 69) :: (mz, .cells (dcells dz) 36) :: (w.heap.size, .cells (#[.int .i64 xk, .int .i64 xa, .int .i64 xv]) 43) :: bx) wx)
     case first =>
      as_aux_lemma =>
      clear ho6
      refine wp_region_noPanic ?_
      refine wp_region_held_drew (S := (fun w' : World => (∀ o, w'.cell? ⟨K.k, o, none⟩ = (kcells c core K)[o]?) ∧ (∀ o, w'.cell? ⟨my, o, none⟩ = (Ar.ycells y)[o]?) ∧ (∀ o, w'.cell? ⟨w.heap.size, o, none⟩ = (#[.int .i64 xk, .int .i64 xa, .int .i64 xv])[o]?))) (by kernel_rfl) ⟨H6.out.kc, H6.out.cells mz0, H6.out.cells mz2⟩ (fun hh0 => ?_)
      replace H6 := Lib.hid H6.out.drew
      generalize World.drew w6 = w6 at *
      refine tk 15 0 ⟨some 69, _, _, _, _, _⟩ (ptr K.k) rfl (by kernel_rfl) (by rfl) hh0 ?_ ?_
      ·intro w' _
       go_simp
      simp only [Act.put, setIfInBounds_toArray, set_cons_zero, set_cons_succ]
      refine tk 14 1 ⟨some 70, _, _, _, _, _⟩ (ptr K.k) rfl (by kernel_rfl) (by rfl) hh0 ?_ ?_
      ·intro w' _
       go_simp
      simp only [Act.put, setIfInBounds_toArray, set_cons_zero, set_cons_succ]
      refine tk 13 2 ⟨some 71, _, _, _, _, _⟩ (ptr K.k) rfl (by kernel_rfl) (by rfl) hh0 ?_ ?_
      ·intro w' _
       go_simp
      simp only [Act.put, setIfInBounds_toArray, set_cons_zero, set_cons_succ]
      refine tk 12 3 ⟨some 72, _, _, _, _, _⟩ (cv c) rfl (by kernel_rfl) (by rfl) hh0 ?_ ?_
      ·rintro w' ⟨c0, -, -⟩
       go_simp
      simp only [Act.put, setIfInBounds_toArray, set_cons_zero, set_cons_succ]
      refine tk 11 4 ⟨some 73, _, _, _, _, _⟩ (.pointer (some ⟨my, 2, none⟩)) rfl (by kernel_rfl) (by rfl) hh0 ?_ ?_
      ·intro w' _
       go_simp
      simp only [Act.put, setIfInBounds_toArray, set_cons_zero, set_cons_succ]
      refine tk 10 5 ⟨some 74, _, _, _, _, _⟩ (.agg (dcells y.wd)) rfl (by kernel_rfl) (by rfl) hh0 ?_ ?_
      ·rintro w' ⟨-, c0, -⟩
       go_simp
      simp only [Act.put, setIfInBounds_toArray, set_cons_zero, set_cons_succ]
      refine tk 9 6 ⟨some 75, _, _, _, _, _⟩ (.agg (#[.int .i64 xk, .int .i64 xa, .int .i64 xv])) rfl (by kernel_rfl) (by rfl) hh0 ?_ ?_
      ·rintro w' ⟨-, -, c0⟩
       go_simp
      simp only [Act.put, setIfInBounds_toArray, set_cons_zero, set_cons_succ]
      refine wpAnyH_ready (fuel := 8) (rs := [7, 12]) (by kernel_rfl) (by simp) ?_
      refine AllReadyH.cons (o := ⟨some 76, _, _, _, _, _⟩) rfl (fun P hP => ?_) (AllReadyH.cons (o := ⟨some 13, _, _, _, _, _⟩) rfl (fun P hP => ?_) AllReadyH.nil)
      ·go_simp
       refine (HP.out _).mono ?_
       rintro e w7 ⟨rfl, hb⟩
       have Hc := Lib.hid (H6.out.step hb)
       clear hb
       show P _ _
       refine hP.out _ _ (⟨Hc.out.kc, Hc.out.cells mz0, Hc.out.cells mz2⟩) (fun hh1 => ?_)
       clear hP P hh0
       refine tk 7 8 ⟨some 68, _, _, _, _, _⟩ (.tuple #[.agg (dcells d), .int .i64 nn, .int .i64 er1]) rfl (by kernel_rfl) (by rfl) hh1 ?_ ?_
       ·intro w' _
        go_simp
       simp only [Act.put, setIfInBounds_toArray, set_cons_zero, set_cons_succ]
       refine tk 6 9 ⟨some 77, _, _, _, _, _⟩ (.agg (dcells d)) rfl (by kernel_rfl) (by rfl) hh1 ?_ ?_
       ·intro w' _
        go_simp
       simp only [Act.put, setIfInBounds_toArray, set_cons_zero, set_cons_succ]
       refine tk 5 10 ⟨some 78, _, _, _, _, _⟩ (.int .i64 nn) rfl (by kernel_rfl) (by rfl) hh1 ?_ ?_
       ·intro w' _
        go_simp
       simp only [Act.put, setIfInBounds_toArray, set_cons_zero, set_cons_succ]
       refine tk 4 11 ⟨some 79, _, _, _, _, _⟩ (.int .i64 er1) rfl (by kernel_rfl) (by rfl) hh1 ?_ ?_
       ·intro w' _
        go_simp
       simp only [Act.put, setIfInBounds_toArray, set_cons_zero, set_cons_succ]
       refine rd 3 12 ⟨some 13, _, _, _, _, _⟩ rfl (by kernel_rfl) (fun P hP => ?_)
       go_simp
       have Hca := Lib.hid (Hc.out.add (.cells #[.int .i64 0, .int .i64 0, .int .i64 0, .int .i64 0, .int .i64 0, .int .i64 0, .int .i64 0, .int .i64 0] 36))
       show P _ _
       refine hP.out _ _ (⟨Hca.out.kc, Hca.out.cells mz1, Hca.out.cells mz3⟩) (fun hh2 => ?_)
       clear hP P hh1
       try simp only [Act.put, setIfInBounds_toArray, set_cons_zero, set_cons_succ]
       refine rd 2 13 ⟨none, _, _, _, _, _⟩ rfl (by kernel_rfl) (fun P hP => ?_)
       rw [if_pos (by rfl)]
       refine wp_store_row 36 (.tmp 13) (.tmp 77) rfl (w7.heap.size) (dcells d) rfl rfl 36 (#[.int .i64 0, .int .i64 0, .int .i64 0, .int .i64 0, .int .i64 0, .int .i64 0, .int .i64 0, .int .i64 0]) (Hca.out.box mz0) (by kernel_rfl) rfl (by kernel_rfl) ?_
       have Hcas := Lib.hid (Hca.out.setRow (cs' := dcells d))
       refine hP.out _ _ (⟨Hcas.out.kc, Hcas.out.cells mz1, Hcas.out.cells mz3⟩) (fun hh3 => ?_)
       clear hP P hh2
       simp only [Act.put]
       refine tk 1 14 ⟨some 14, _, _, _, _, _⟩ (.int .i64 nn) rfl (by kernel_rfl) (by rfl) hh3 ?_ ?_
       ·intro w' _
        go_simp
       simp only [Act.put, setIfInBounds_toArray, set_cons_zero, set_cons_succ]
       refine tk 0 15 ⟨some 15, _, _, _, _, _⟩ (.int .i64 er1) rfl (by kernel_rfl) (by rfl) hh3 ?_ ?_
       ·intro w' _
        go_simp
       simp only [Act.put, setIfInBounds_toArray, set_cons_zero, set_cons_succ]
       refine wpAnyH_done (by kernel_rfl) ?_ _
       refine NoPanic.normal ?_
       clear hh3
       go_wp2
       go_meet
       case rel => exact ⟨_, rfl, rfl, rfl, Hcas.out⟩
      ·go_simp
       have H6a := Lib.hid (H6.out.add (.cells #[.int .i64 0, .int .i64 0, .int .i64 0, .int .i64 0, .int .i64 0, .int .i64 0, .int .i64 0, .int .i64 0] 36))
       show P _ _
       refine hP.out _ _ (⟨H6a.out.kc, H6a.out.cells mz1, H6a.out.cells mz3⟩) (fun hh1 => ?_)
       clear hP P hh0
       try simp only [Act.put, setIfInBounds_toArray, set_cons_zero, set_cons_succ]
       refine rd 7 7 ⟨some 76, _, _, _, _, _⟩ rfl (by kernel_rfl) (fun P hP => ?_)
       go_simp
       refine (HP.out _).mono ?_
       rintro e w7 ⟨rfl, hb⟩
       have Hc := Lib.hid (H6a.out.step hb)
       clear hb
       show P _ _
       refine hP.out _ _ (⟨Hc.out.kc, Hc.out.cells mz1, Hc.out.cells mz3⟩) (fun hh2 => ?_)
       clear hP P hh1
       refine tk 6 8 ⟨some 68, _, _, _, _, _⟩ (.tuple #[.agg (dcells d), .int .i64 nn, .int .i64 er1]) rfl (by kernel_rfl) (by rfl) hh2 ?_ ?_
       ·intro w' _
        go_simp
       simp only [Act.put, setIfInBounds_toArray, set_cons_zero, set_cons_succ]
       refine tk 5 9 ⟨some 77, _, _, _, _, _⟩ (.agg (dcells d)) rfl (by kernel_rfl) (by rfl) hh2 ?_ ?_
       ·intro w' _
        go_simp
       simp only [Act.put, setIfInBounds_toArray, set_cons_zero, set_cons_succ]
       refine tk 4 10 ⟨some 78, _, _, _, _, _⟩ (.int .i64 nn) rfl (by kernel_rfl) (by rfl) hh2 ?_ ?_
       ·intro w' _
        go_simp
       simp only [Act.put, setIfInBounds_toArray, set_cons_zero, set_cons_succ]
       refine tk 3 11 ⟨some 79, _, _, _, _, _⟩ (.int .i64 er1) rfl (by kernel_rfl) (by rfl) hh2 ?_ ?_
       ·intro w' _
        go_simp
       simp only [Act.put, setIfInBounds_toArray, set_cons_zero, set_cons_succ]
       refine rd 2 13 ⟨none, _, _, _, _, _⟩ rfl (by kernel_rfl) (fun P hP => ?_)
       rw [if_pos (by rfl)]
       refine wp_store_row 36 (.tmp 13) (.tmp 77) rfl (w6.heap.size) (dcells d) rfl rfl 36 (#[.int .i64 0, .int .i64 0, .int .i64 0, .int .i64 0, .int .i64 0, .int .i64 0, .int .i64 0, .int .i64 0]) (Hc.out.box mz0) (by kernel_rfl) rfl (by kernel_rfl) ?_
       have Hcs := Lib.hid (Hc.out.setRow (cs' := dcells d))
       refine hP.out _ _ (⟨Hcs.out.kc, Hcs.out.cells mz1, Hcs.out.cells mz3⟩) (fun hh3 => ?_)
       clear hP P hh2
       simp only [Act.put]
       refine tk 1 14 ⟨some 14, _, _, _, _, _⟩ (.int .i64 nn) rfl (by kernel_rfl) (by rfl) hh3 ?_ ?_
       ·intro w' _
        go_simp
       simp only [Act.put, setIfInBounds_toArray, set_cons_zero, set_cons_succ]
       refine tk 0 15 ⟨some 15, _, _, _, _, _⟩ (.int .i64 er1) rfl (by kernel_rfl) (by rfl) hh3 ?_ ?_
       ·intro w' _
        go_simp
       simp only [Act.put, setIfInBounds_toArray, set_cons_zero, set_cons_succ]
       refine wpAnyH_done (by kernel_rfl) ?_ _
       refine NoPanic.normal ?_
       clear hh3
       go_wp2
       go_meet
       case rel => exact ⟨_, rfl, rfl, rfl, Hcs.out⟩
     case rest =>
      obtain ⟨md, rfl, rfl, rfl, h8⟩ := hcut
      have H8 := Lib.hid h8
      clear h8 H6 HP ho6
      obtain ⟨w8, rfl⟩ : ∃ w8 : World, w8 = wc := ⟨_, rfl⟩
      have ho8 := H8.out.cells mz3
      have hk8 := H8.out.kc
      have hd8 := H8.out.cells mz0
      go_upto_region 10 with fail
      go_region_held3 (fun w' => (∀ o, w'.cell? ⟨K.k, o, none⟩ = (kcells c core K)[o]?) ∧ (∀ o, w'.cell? ⟨md, o, none⟩ = (dcells d)[o]?))
       (first | exact ⟨H9.out.kc, H9.out.cells mz0⟩ | exact ⟨hk8, hd8⟩ | go_keep)
       (first
        | (go_at_call 77; refine ((by first | exact H8.out | exact H8.out.drew : OwnD w0 K c core n s _ _).dset line 4 d).mono ?_; rintro e w9 ⟨⟨i9, rfl⟩, ho⟩; have H9 := Lib.hid ho; clear ho))
      clear hk8 hd8 ho8 H8
      go_wp2
      go_ret2
      exact ⟨rfl, H9.out.drop.drop.drop.drop⟩

theorem Own.ddo (h : OwnD w0 K c core n s bx w) (x : Pg.Op) :
  Calls Tryz.prog 40 #[ptr K.k, Pg.ov x] w fun e w' => e = .returned (.tuple #[.int .i64 (doP c s x).1.1, .int .i64 (doP c s x).1.2]) ∧ OwnD w0 K c core n (doP c s x).2 bx w' := by
 obtain ⟨xk, xa, xv⟩ := x
 rcases hz : Me.apP c d0 ⟨xk, xa, xv⟩ with ⟨dz, nz, er0⟩
 rcases hp : Me.apP c (Go.Proofs.YtlfhkjjjocmpbaaGreatDoor.Cc.look c s (adL c xa)).wd ⟨xk, xa, xv⟩ with ⟨d, nn, er1⟩
 refine ddo_any h xk xa xv hz (line := adL c xa) rfl hp ?_
 have hsame : er1 = er0 := by
  unfold Me.apP at hz hp
  split at hz
  ·rename_i q
   rw [if_pos q] at hp
   simp only [Prod.mk.injEq] at hz hp
   rw [← hz.2.2, ← hp.2.2]
  ·rename_i q
   rw [if_neg q] at hp
   simp only [Prod.mk.injEq] at hz hp
   rw [← hz.2.2, ← hp.2.2]
 subst hsame
 unfold doP
 simp only [hp]
 by_cases he : er1 = 0
 ·subst he
  refine .inr ⟨rfl, ?_, ?_⟩
  ·have hok := ap_ok (d := d0) (x := ⟨xk, xa, xv⟩) (by rw [hz])
   obtain ⟨_, q0, q1⟩ := ok_of_adOk hok.1
   have hq := Pg.may_iff.1 hok.2.1
   have ha : adOk c xa = true := hok.1
   exact ⟨q0, hq.2.1, by simp [adL, ha]⟩
  ·simp only [ne_eq, not_true_eq_false, if_false]
   by_cases k1 : xk = 1
   ·subst k1
    have hcl : canB (Go.Proofs.YtlfhkjjjocmpbaaGreatDoor.Cc.look c s (adL c xa)) 1 = letsB (Go.Proofs.YtlfhkjjjocmpbaaGreatDoor.Cc.look c s (adL c xa)) false := by simp [canB, letsB]
    refine .inl ⟨rfl, rfl, ?_⟩
    rw [hcl]
    rcases Bool.eq_false_or_eq_true (letsB (Go.Proofs.YtlfhkjjjocmpbaaGreatDoor.Cc.look c s (adL c xa)) false) with q | q
    ·exact .inr ⟨q, by simp [q], by simp [q]⟩
    ·exact .inl ⟨q, by simp [q], by simp [q]⟩
   ·have b1 : (xk == 1) = false := by simpa using k1
    have b2 : (xk != 1) = true := by simpa using k1
    have hcl : canB (Go.Proofs.YtlfhkjjjocmpbaaGreatDoor.Cc.look c s (adL c xa)) 2 = letsB (Go.Proofs.YtlfhkjjjocmpbaaGreatDoor.Cc.look c s (adL c xa)) true := by simp [canB, letsB]
    refine .inr ⟨b1, b2, ?_⟩
    rw [hcl, b2]
    rcases Bool.eq_false_or_eq_true (letsB (Go.Proofs.YtlfhkjjjocmpbaaGreatDoor.Cc.look c s (adL c xa)) true) with q | q
    ·exact .inr ⟨q, by simp [q], by simp [q]⟩
    ·exact .inl ⟨q, by simp [q], by simp [q]⟩
 ·exact .inl ⟨by simpa using he, by simp [he], by simp [he]⟩

end Go.Proofs.YtlfhkjjjocmpbaaGreatDoor.Cc
