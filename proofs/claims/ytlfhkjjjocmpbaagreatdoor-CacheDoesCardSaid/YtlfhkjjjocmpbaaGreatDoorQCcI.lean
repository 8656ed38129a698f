import Derived.Test.YtlfhkjjjocmpbaaGreatDoorSx
import Derived.Test.YtlfhkjjjocmpbaaGreatDoorQGcE

namespace Go.Proofs.YtlfhkjjjocmpbaaGreatDoor.Cc
open Go Go.RowKit
open List (setIfInBounds_toArray set_cons_zero set_cons_succ)

variable {w0 w w' : World} {bx : Bx} {K : Kb} {c : Cfg} {core n : Int} {s : St}
set_option maxRecDepth 100000 in
set_option maxHeartbeats 4000000 in
theorem do_err (h : OwnP w0 K c core n s bx w) (xk xa xv : Int) {d : Wd} {nn er : Int} (hap : Me.apP c (look c s (adL c xa)).wd ⟨xk, xa, xv⟩ = (d, nn, er)) (e1 : (er != 0) = true) :
  Calls Tryz.prog 20 #[ptr K.k, Pg.ov ⟨xk, xa, xv⟩] w fun e w' => e = .returned (.tuple #[.int .i64 0, .int .i64 er]) ∧ OwnP w0 K c core n s bx w' := by
 have H0 := Lib.hid (h.add (.cells #[.int .i64 xk, .int .i64 xa, .int .i64 xv] 43))
 have HAd := Lib.hid (fun w1 bx (h : OwnP w0 K c core n s bx w1) => h.addr xa)
 have HLk := Lib.hid (fun w1 bx (h : OwnP w0 K c core n s bx w1) => h.look (adL c xa))
 have HP := Lib.hid (fun w1 bx (h : OwnP w0 K c core n s bx w1) => h.apply (look c s (adL c xa)).wd ⟨xk, xa, xv⟩)
 rw [hap] at HP
 have hk := H0.out.kc
 have hx := H0.out.cells mz0
 clear h hap
 generalize look c s (adL c xa) = y at *
 generalize there c s (adL c xa) = q at *
 generalize adL c xa = line at *
 generalize adW c xa = word at *
 generalize adE c xa = ae at *
 go_enter Tryz.func20, Tryz.ntmps20
 go_wp2_with fail
 go_region_held3 (fun w' => (∀ o, w'.cell? ⟨K.k, o, none⟩ = (kcells c core K)[o]?) ∧ (∀ o, w'.cell? ⟨w.heap.size, o, none⟩ = (#[Value.int .i64 xk, .int .i64 xa, .int .i64 xv])[o]?))
  (first | exact ⟨H1.out.kc, H1.out.cells mz0⟩ | exact ⟨hk, hx⟩ | go_keep)
  (first
   | (go_at_call 19; refine (HAd.out _ _ (by first | exact H0.out | exact H0.out.drew)).mono ?_; rintro e w1 ⟨rfl, hb1⟩; have H1 := (by first | exact Lib.hid (H0.out.step hb1) | exact Lib.hid (H0.out.drew.step hb1)); clear hb1))
 clear hk hx
 go_wp2_with fail
 refine (HLk.out _ _ H1.out).mono ?_
 rintro e w2 ⟨rfl, hb2⟩
 have H3 := Lib.hid ((H1.out.step hb2).add (.cells (Ar.ycells y) 66))
 clear hb2 H1
 go_wp2_with fail
 obtain ⟨w3, hw3⟩ : ∃ w3, w3 = w2.alloc (.cells (Ar.ycells y) 66) := ⟨_, rfl⟩
 rw [← hw3] at H3
 change Code.wp _ _ _ _ (w2.alloc (.cells (Ar.ycells y) 66))
 rw [← hw3]
 clear hw3
 refine wp_region_noPanic ?_
 refine wp_region_held_drew (S := (fun w' : World => (∀ o, w'.cell? ⟨K.k, o, none⟩ = (kcells c core K)[o]?) ∧ (∀ o, w'.cell? ⟨w2.heap.size, o, none⟩ = (Ar.ycells y)[o]?) ∧ (∀ o, w'.cell? ⟨w.heap.size, o, none⟩ = (#[Value.int .i64 xk, .int .i64 xa, .int .i64 xv])[o]?))) (by kernel_rfl) ⟨H3.out.kc, H3.out.cells mz0, H3.out.cells mz1⟩ (fun hh => ?_)
 replace H3 := Lib.hid H3.out.drew
 generalize World.drew w3 = w3 at *
 refine tk 15 0 ⟨some 33, _, _, _, _, _⟩ (ptr K.k) rfl (by kernel_rfl) (by rfl) hh ?_ ?_
 ·intro w' _
  go_simp
 simp only [Act.put, setIfInBounds_toArray, set_cons_zero, set_cons_succ]
 refine tk 14 1 ⟨some 34, _, _, _, _, _⟩ (ptr K.k) rfl (by kernel_rfl) (by rfl) hh ?_ ?_
 ·intro w' _
  go_simp
 simp only [Act.put, setIfInBounds_toArray, set_cons_zero, set_cons_succ]
 refine tk 13 2 ⟨some 35, _, _, _, _, _⟩ (ptr K.k) rfl (by kernel_rfl) (by rfl) hh ?_ ?_
 ·intro w' _
  go_simp
 simp only [Act.put, setIfInBounds_toArray, set_cons_zero, set_cons_succ]
 refine tk 12 3 ⟨some 36, _, _, _, _, _⟩ (cv c) rfl (by kernel_rfl) (by rfl) hh ?_ ?_
 ·rintro w' ⟨c0, -, -⟩
  go_simp
 simp only [Act.put, setIfInBounds_toArray, set_cons_zero, set_cons_succ]
 refine tk 11 4 ⟨some 37, _, _, _, _, _⟩ (.pointer (some ⟨w2.heap.size, 2, none⟩)) rfl (by kernel_rfl) (by rfl) hh ?_ ?_
 ·intro w' _
  go_simp
 simp only [Act.put, setIfInBounds_toArray, set_cons_zero, set_cons_succ]
 refine tk 10 5 ⟨some 38, _, _, _, _, _⟩ (.agg (dcells y.wd)) rfl (by kernel_rfl) (by rfl) hh ?_ ?_
 ·rintro w' ⟨-, c0, -⟩
  go_simp
 simp only [Act.put, setIfInBounds_toArray, set_cons_zero, set_cons_succ]
 refine tk 9 6 ⟨some 39, _, _, _, _, _⟩ (.agg #[.int .i64 xk, .int .i64 xa, .int .i64 xv]) rfl (by kernel_rfl) (by rfl) hh ?_ ?_
 ·rintro w' ⟨-, -, c0⟩
  go_simp
 simp only [Act.put, setIfInBounds_toArray, set_cons_zero, set_cons_succ]
 refine wpAnyH_ready (fuel := 8) (rs := [7, 12]) (by kernel_rfl) (by simp) ?_
 refine AllReadyH.cons (o := ⟨some 40, _, _, _, _, _⟩) rfl (fun P hP => ?_) (AllReadyH.cons (o := ⟨some 11, _, _, _, _, _⟩) rfl (fun P hP => ?_) AllReadyH.nil)
 ·go_simp
  refine (HP.out _ _ H3.out).mono ?_
  rintro e w4 ⟨rfl, hb4⟩
  have H4 := Lib.hid (H3.out.step hb4)
  show P _ _
  refine hP.out _ _ (⟨H4.out.kc, H4.out.cells mz0, H4.out.cells mz1⟩) (fun hh2 => ?_)
  clear hP P hh hb4
  refine tk 7 8 ⟨some 32, _, _, _, _, _⟩ (.tuple #[.agg (dcells d), .int .i64 nn, .int .i64 er]) rfl (by kernel_rfl) (by rfl) hh2 ?_ ?_
  ·intro w' _
   go_simp
  simp only [Act.put, setIfInBounds_toArray, set_cons_zero, set_cons_succ]
  refine tk 6 9 ⟨some 41, _, _, _, _, _⟩ (.agg (dcells d)) rfl (by kernel_rfl) (by rfl) hh2 ?_ ?_
  ·intro w' _
   go_simp
  simp only [Act.put, setIfInBounds_toArray, set_cons_zero, set_cons_succ]
  refine tk 5 10 ⟨some 42, _, _, _, _, _⟩ (.int .i64 nn) rfl (by kernel_rfl) (by rfl) hh2 ?_ ?_
  ·intro w' _
   go_simp
  simp only [Act.put, setIfInBounds_toArray, set_cons_zero, set_cons_succ]
  refine tk 4 11 ⟨some 43, _, _, _, _, _⟩ (.int .i64 er) rfl (by kernel_rfl) (by rfl) hh2 ?_ ?_
  ·intro w' _
   go_simp
  simp only [Act.put, setIfInBounds_toArray, set_cons_zero, set_cons_succ]
  refine rd 3 12 ⟨some 11, _, _, _, _, _⟩ rfl (by kernel_rfl) (fun P hP => ?_)
  go_simp
  have H5 := Lib.hid (H4.out.add (.cells #[.int .i64 0, .int .i64 0, .int .i64 0, .int .i64 0, .int .i64 0, .int .i64 0, .int .i64 0, .int .i64 0] 36))
  show P _ _
  refine hP.out _ _ (⟨H5.out.kc, H5.out.cells mz1, H5.out.cells mz2⟩) (fun hh3 => ?_)
  clear hP P hh2
  refine rd 2 13 ⟨none, _, _, _, _, _⟩ rfl (by kernel_rfl) (fun P hP => ?_)
  rw [if_pos (by rfl)]
  refine wp_store_row 36 (.tmp 11) (.tmp 41) rfl w4.heap.size (dcells d) rfl rfl 36 #[.int .i64 0, .int .i64 0, .int .i64 0, .int .i64 0, .int .i64 0, .int .i64 0, .int .i64 0, .int .i64 0] (H5.out.box mz0) (by kernel_rfl) rfl (by kernel_rfl) ?_
  have H6 := Lib.hid (H5.out.setRow (cs' := dcells d))
  refine hP.out _ _ (⟨H6.out.kc, H6.out.cells mz1, H6.out.cells mz2⟩) (fun hh4 => ?_)
  clear hP P hh3
  simp only [Act.put]
  refine tk 1 14 ⟨some 12, _, _, _, _, _⟩ (.int .i64 nn) rfl (by kernel_rfl) (by rfl) hh4 ?_ ?_
  ·intro w' _
   go_simp
  simp only [Act.put, setIfInBounds_toArray, set_cons_zero, set_cons_succ]
  refine tk 0 15 ⟨some 13, _, _, _, _, _⟩ (.int .i64 er) rfl (by kernel_rfl) (by rfl) hh4 ?_ ?_
  ·intro w' _
   go_simp
  simp only [Act.put, setIfInBounds_toArray, set_cons_zero, set_cons_succ]
  refine wpAnyH_done (by kernel_rfl) ?_ _
  refine NoPanic.normal ?_
  clear hh4 H5 H4 H3
  generalize World.setRow (World.alloc w4 _) _ _ = w6 at *
  generalize w4.heap.size = m at *
  go_wp2
  go_ret2
  exact ⟨rfl, H6.out.drop.drop.drop⟩
 ·go_simp
  have H4 := Lib.hid (H3.out.add (.cells #[.int .i64 0, .int .i64 0, .int .i64 0, .int .i64 0, .int .i64 0, .int .i64 0, .int .i64 0, .int .i64 0] 36))
  show P _ _
  refine hP.out _ _ (⟨H4.out.kc, H4.out.cells mz1, H4.out.cells mz2⟩) (fun hh2 => ?_)
  clear hP P hh
  refine rd 7 7 ⟨some 40, _, _, _, _, _⟩ rfl (by kernel_rfl) (fun P hP => ?_)
  go_simp
  refine (HP.out _ _ H4.out).mono ?_
  rintro e w4 ⟨rfl, hb4⟩
  have H5 := Lib.hid (H4.out.step hb4)
  show P _ _
  refine hP.out _ _ (⟨H5.out.kc, H5.out.cells mz1, H5.out.cells mz2⟩) (fun hh3 => ?_)
  clear hP P hh2 hb4
  refine tk 6 8 ⟨some 32, _, _, _, _, _⟩ (.tuple #[.agg (dcells d), .int .i64 nn, .int .i64 er]) rfl (by kernel_rfl) (by rfl) hh3 ?_ ?_
  ·intro w' _
   go_simp
  simp only [Act.put, setIfInBounds_toArray, set_cons_zero, set_cons_succ]
  refine tk 5 9 ⟨some 41, _, _, _, _, _⟩ (.agg (dcells d)) rfl (by kernel_rfl) (by rfl) hh3 ?_ ?_
  ·intro w' _
   go_simp
  simp only [Act.put, setIfInBounds_toArray, set_cons_zero, set_cons_succ]
  refine tk 4 10 ⟨some 42, _, _, _, _, _⟩ (.int .i64 nn) rfl (by kernel_rfl) (by rfl) hh3 ?_ ?_
  ·intro w' _
   go_simp
  simp only [Act.put, setIfInBounds_toArray, set_cons_zero, set_cons_succ]
  refine tk 3 11 ⟨some 43, _, _, _, _, _⟩ (.int .i64 er) rfl (by kernel_rfl) (by rfl) hh3 ?_ ?_
  ·intro w' _
   go_simp
  simp only [Act.put, setIfInBounds_toArray, set_cons_zero, set_cons_succ]
  refine rd 2 13 ⟨none, _, _, _, _, _⟩ rfl (by kernel_rfl) (fun P hP => ?_)
  rw [if_pos (by rfl)]
  refine wp_store_row 36 (.tmp 11) (.tmp 41) rfl w3.heap.size (dcells d) rfl rfl 36 #[.int .i64 0, .int .i64 0, .int .i64 0, .int .i64 0, .int .i64 0, .int .i64 0, .int .i64 0, .int .i64 0] (H5.out.box mz0) (by kernel_rfl) rfl (by kernel_rfl) ?_
  have H6 := Lib.hid (H5.out.setRow (cs' := dcells d))
  refine hP.out _ _ (⟨H6.out.kc, H6.out.cells mz1, H6.out.cells mz2⟩) (fun hh4 => ?_)
  clear hP P hh3
  simp only [Act.put]
  refine tk 1 14 ⟨some 12, _, _, _, _, _⟩ (.int .i64 nn) rfl (by kernel_rfl) (by rfl) hh4 ?_ ?_
  ·intro w' _
   go_simp
  simp only [Act.put, setIfInBounds_toArray, set_cons_zero, set_cons_succ]
  refine tk 0 15 ⟨some 13, _, _, _, _, _⟩ (.int .i64 er) rfl (by kernel_rfl) (by rfl) hh4 ?_ ?_
  ·intro w' _
   go_simp
  simp only [Act.put, setIfInBounds_toArray, set_cons_zero, set_cons_succ]
  refine wpAnyH_done (by kernel_rfl) ?_ _
  refine NoPanic.normal ?_
  clear hh4 H5 H4 H3
  generalize World.setRow w4 _ _ = w6 at *
  generalize w3.heap.size = m at *
  go_wp2
  go_ret2
  exact ⟨rfl, H6.out.drop.drop.drop⟩

set_option maxRecDepth 100000 in
set_option maxHeartbeats 4000000 in
theorem do_lets (h : OwnP w0 K c core n s bx w) (xk xa xv : Int) {d : Wd} {nn er : Int} (hap : Me.apP c (look c s (adL c xa)).wd ⟨xk, xa, xv⟩ = (d, nn, er)) (e1 : (er != 0) = false) (hl : (letsB (look c s (adL c xa)) (xk != 1)) = false) :
  Calls Tryz.prog 20 #[ptr K.k, Pg.ov ⟨xk, xa, xv⟩] w fun e w' => e = .returned (.tuple #[.int .i64 0, .int .i64 5]) ∧ OwnP w0 K c core n s bx w' := by
 have H0 := Lib.hid (h.add (.cells #[.int .i64 xk, .int .i64 xa, .int .i64 xv] 43))
 have HAd := Lib.hid (fun w1 bx (h : OwnP w0 K c core n s bx w1) => h.addr xa)
 have HLk := Lib.hid (fun w1 bx (h : OwnP w0 K c core n s bx w1) => h.look (adL c xa))
 have HP := Lib.hid (fun w1 bx (h : OwnP w0 K c core n s bx w1) => h.apply (look c s (adL c xa)).wd ⟨xk, xa, xv⟩)
 rw [hap] at HP
 have hk := H0.out.kc
 have hx := H0.out.cells mz0
 clear h hap
 generalize look c s (adL c xa) = y at *
 generalize there c s (adL c xa) = q at *
 generalize adL c xa = line at *
 generalize adW c xa = word at *
 generalize adE c xa = ae at *
 go_enter Tryz.func20, Tryz.ntmps20
 go_wp2_with fail
 go_region_held3 (fun w' => (∀ o, w'.cell? ⟨K.k, o, none⟩ = (kcells c core K)[o]?) ∧ (∀ o, w'.cell? ⟨w.heap.size, o, none⟩ = (#[Value.int .i64 xk, .int .i64 xa, .int .i64 xv])[o]?))
  (first | exact ⟨H1.out.kc, H1.out.cells mz0⟩ | exact ⟨hk, hx⟩ | go_keep)
  (first
   | (go_at_call 19; refine (HAd.out _ _ (by first | exact H0.out | exact H0.out.drew)).mono ?_; rintro e w1 ⟨rfl, hb1⟩; have H1 := (by first | exact Lib.hid (H0.out.step hb1) | exact Lib.hid (H0.out.drew.step hb1)); clear hb1))
 clear hk hx
 go_wp2_with fail
 refine (HLk.out _ _ H1.out).mono ?_
 rintro e w2 ⟨rfl, hb2⟩
 have H3 := Lib.hid ((H1.out.step hb2).add (.cells (Ar.ycells y) 66))
 clear hb2 H1
 go_wp2_with fail
 obtain ⟨w3, hw3⟩ : ∃ w3, w3 = w2.alloc (.cells (Ar.ycells y) 66) := ⟨_, rfl⟩
 rw [← hw3] at H3
 change Code.wp _ _ _ _ (w2.alloc (.cells (Ar.ycells y) 66))
 rw [← hw3]
 clear hw3
 refine wp_region_noPanic ?_
 refine wp_region_held_drew (S := (fun w' : World => (∀ o, w'.cell? ⟨K.k, o, none⟩ = (kcells c core K)[o]?) ∧ (∀ o, w'.cell? ⟨w2.heap.size, o, none⟩ = (Ar.ycells y)[o]?) ∧ (∀ o, w'.cell? ⟨w.heap.size, o, none⟩ = (#[Value.int .i64 xk, .int .i64 xa, .int .i64 xv])[o]?))) (by kernel_rfl) ⟨H3.out.kc, H3.out.cells mz0, H3.out.cells mz1⟩ (fun hh => ?_)
 replace H3 := Lib.hid H3.out.drew
 generalize World.drew w3 = w3 at *
 refine tk 15 0 ⟨some 33, _, _, _, _, _⟩ (ptr K.k) rfl (by kernel_rfl) (by rfl) hh ?_ ?_
 ·intro w' _
  go_simp
 simp only [Act.put, setIfInBounds_toArray, set_cons_zero, set_cons_succ]
 refine tk 14 1 ⟨some 34, _, _, _, _, _⟩ (ptr K.k) rfl (by kernel_rfl) (by rfl) hh ?_ ?_
 ·intro w' _
  go_simp
 simp only [Act.put, setIfInBounds_toArray, set_cons_zero, set_cons_succ]
 refine tk 13 2 ⟨some 35, _, _, _, _, _⟩ (ptr K.k) rfl (by kernel_rfl) (by rfl) hh ?_ ?_
 ·intro w' _
  go_simp
 simp only [Act.put, setIfInBounds_toArray, set_cons_zero, set_cons_succ]
 refine tk 12 3 ⟨some 36, _, _, _, _, _⟩ (cv c) rfl (by kernel_rfl) (by rfl) hh ?_ ?_
 ·rintro w' ⟨c0, -, -⟩
  go_simp
 simp only [Act.put, setIfInBounds_toArray, set_cons_zero, set_cons_succ]
 refine tk 11 4 ⟨some 37, _, _, _, _, _⟩ (.pointer (some ⟨w2.heap.size, 2, none⟩)) rfl (by kernel_rfl) (by rfl) hh ?_ ?_
 ·intro w' _
  go_simp
 simp only [Act.put, setIfInBounds_toArray, set_cons_zero, set_cons_succ]
 refine tk 10 5 ⟨some 38, _, _, _, _, _⟩ (.agg (dcells y.wd)) rfl (by kernel_rfl) (by rfl) hh ?_ ?_
 ·rintro w' ⟨-, c0, -⟩
  go_simp
 simp only [Act.put, setIfInBounds_toArray, set_cons_zero, set_cons_succ]
 refine tk 9 6 ⟨some 39, _, _, _, _, _⟩ (.agg #[.int .i64 xk, .int .i64 xa, .int .i64 xv]) rfl (by kernel_rfl) (by rfl) hh ?_ ?_
 ·rintro w' ⟨-, -, c0⟩
  go_simp
 simp only [Act.put, setIfInBounds_toArray, set_cons_zero, set_cons_succ]
 refine wpAnyH_ready (fuel := 8) (rs := [7, 12]) (by kernel_rfl) (by simp) ?_
 refine AllReadyH.cons (o := ⟨some 40, _, _, _, _, _⟩) rfl (fun P hP => ?_) (AllReadyH.cons (o := ⟨some 11, _, _, _, _, _⟩) rfl (fun P hP => ?_) AllReadyH.nil)
 ·go_simp
  refine (HP.out _ _ H3.out).mono ?_
  rintro e w4 ⟨rfl, hb4⟩
  have H4 := Lib.hid (H3.out.step hb4)
  show P _ _
  refine hP.out _ _ (⟨H4.out.kc, H4.out.cells mz0, H4.out.cells mz1⟩) (fun hh2 => ?_)
  clear hP P hh hb4
  refine tk 7 8 ⟨some 32, _, _, _, _, _⟩ (.tuple #[.agg (dcells d), .int .i64 nn, .int .i64 er]) rfl (by kernel_rfl) (by rfl) hh2 ?_ ?_
  ·intro w' _
   go_simp
  simp only [Act.put, setIfInBounds_toArray, set_cons_zero, set_cons_succ]
  refine tk 6 9 ⟨some 41, _, _, _, _, _⟩ (.agg (dcells d)) rfl (by kernel_rfl) (by rfl) hh2 ?_ ?_
  ·intro w' _
   go_simp
  simp only [Act.put, setIfInBounds_toArray, set_cons_zero, set_cons_succ]
  refine tk 5 10 ⟨some 42, _, _, _, _, _⟩ (.int .i64 nn) rfl (by kernel_rfl) (by rfl) hh2 ?_ ?_
  ·intro w' _
   go_simp
  simp only [Act.put, setIfInBounds_toArray, set_cons_zero, set_cons_succ]
  refine tk 4 11 ⟨some 43, _, _, _, _, _⟩ (.int .i64 er) rfl (by kernel_rfl) (by rfl) hh2 ?_ ?_
  ·intro w' _
   go_simp
  simp only [Act.put, setIfInBounds_toArray, set_cons_zero, set_cons_succ]
  refine rd 3 12 ⟨some 11, _, _, _, _, _⟩ rfl (by kernel_rfl) (fun P hP => ?_)
  go_simp
  have H5 := Lib.hid (H4.out.add (.cells #[.int .i64 0, .int .i64 0, .int .i64 0, .int .i64 0, .int .i64 0, .int .i64 0, .int .i64 0, .int .i64 0] 36))
  show P _ _
  refine hP.out _ _ (⟨H5.out.kc, H5.out.cells mz1, H5.out.cells mz2⟩) (fun hh3 => ?_)
  clear hP P hh2
  refine rd 2 13 ⟨none, _, _, _, _, _⟩ rfl (by kernel_rfl) (fun P hP => ?_)
  rw [if_pos (by rfl)]
  refine wp_store_row 36 (.tmp 11) (.tmp 41) rfl w4.heap.size (dcells d) rfl rfl 36 #[.int .i64 0, .int .i64 0, .int .i64 0, .int .i64 0, .int .i64 0, .int .i64 0, .int .i64 0, .int .i64 0] (H5.out.box mz0) (by kernel_rfl) rfl (by kernel_rfl) ?_
  have H6 := Lib.hid (H5.out.setRow (cs' := dcells d))
  refine hP.out _ _ (⟨H6.out.kc, H6.out.cells mz1, H6.out.cells mz2⟩) (fun hh4 => ?_)
  clear hP P hh3
  simp only [Act.put]
  refine tk 1 14 ⟨some 12, _, _, _, _, _⟩ (.int .i64 nn) rfl (by kernel_rfl) (by rfl) hh4 ?_ ?_
  ·intro w' _
   go_simp
  simp only [Act.put, setIfInBounds_toArray, set_cons_zero, set_cons_succ]
  refine tk 0 15 ⟨some 13, _, _, _, _, _⟩ (.int .i64 er) rfl (by kernel_rfl) (by rfl) hh4 ?_ ?_
  ·intro w' _
   go_simp
  simp only [Act.put, setIfInBounds_toArray, set_cons_zero, set_cons_succ]
  refine wpAnyH_done (by kernel_rfl) ?_ _
  refine NoPanic.normal ?_
  clear hh4 H5 H4 H3
  generalize World.setRow (World.alloc w4 _) _ _ = w6 at *
  generalize w4.heap.size = m at *
  have hx6 := H6.out.cells mz2
  have hy6 := H6.out.cells mz1
  go_wp2_with fail
  refine (lets_any y _ _).mono ?_
  rintro e w7 ⟨rfl, hb7⟩
  rw [hl]
  have H7 := Lib.hid (H6.out.step hb7)
  clear hb7 hx6 hy6 H6
  go_wp2
  go_ret2
  exact ⟨rfl, H7.out.drop.drop.drop⟩
 ·go_simp
  have H4 := Lib.hid (H3.out.add (.cells #[.int .i64 0, .int .i64 0, .int .i64 0, .int .i64 0, .int .i64 0, .int .i64 0, .int .i64 0, .int .i64 0] 36))
  show P _ _
  refine hP.out _ _ (⟨H4.out.kc, H4.out.cells mz1, H4.out.cells mz2⟩) (fun hh2 => ?_)
  clear hP P hh
  refine rd 7 7 ⟨some 40, _, _, _, _, _⟩ rfl (by kernel_rfl) (fun P hP => ?_)
  go_simp
  refine (HP.out _ _ H4.out).mono ?_
  rintro e w4 ⟨rfl, hb4⟩
  have H5 := Lib.hid (H4.out.step hb4)
  show P _ _
  refine hP.out _ _ (⟨H5.out.kc, H5.out.cells mz1, H5.out.cells mz2⟩) (fun hh3 => ?_)
  clear hP P hh2 hb4
  refine tk 6 8 ⟨some 32, _, _, _, _, _⟩ (.tuple #[.agg (dcells d), .int .i64 nn, .int .i64 er]) rfl (by kernel_rfl) (by rfl) hh3 ?_ ?_
  ·intro w' _
   go_simp
  simp only [Act.put, setIfInBounds_toArray, set_cons_zero, set_cons_succ]
  refine tk 5 9 ⟨some 41, _, _, _, _, _⟩ (.agg (dcells d)) rfl (by kernel_rfl) (by rfl) hh3 ?_ ?_
  ·intro w' _
   go_simp
  simp only [Act.put, setIfInBounds_toArray, set_cons_zero, set_cons_succ]
  refine tk 4 10 ⟨some 42, _, _, _, _, _⟩ (.int .i64 nn) rfl (by kernel_rfl) (by rfl) hh3 ?_ ?_
  ·intro w' _
   go_simp
  simp only [Act.put, setIfInBounds_toArray, set_cons_zero, set_cons_succ]
  refine tk 3 11 ⟨some 43, _, _, _, _, _⟩ (.int .i64 er) rfl (by kernel_rfl) (by rfl) hh3 ?_ ?_
  ·intro w' _
   go_simp
  simp only [Act.put, setIfInBounds_toArray, set_cons_zero, set_cons_succ]
  refine rd 2 13 ⟨none, _, _, _, _, _⟩ rfl (by kernel_rfl) (fun P hP => ?_)
  rw [if_pos (by rfl)]
  refine wp_store_row 36 (.tmp 11) (.tmp 41) rfl w3.heap.size (dcells d) rfl rfl 36 #[.int .i64 0, .int .i64 0, .int .i64 0, .int .i64 0, .int .i64 0, .int .i64 0, .int .i64 0, .int .i64 0] (H5.out.box mz0) (by kernel_rfl) rfl (by kernel_rfl) ?_
  have H6 := Lib.hid (H5.out.setRow (cs' := dcells d))
  refine hP.out _ _ (⟨H6.out.kc, H6.out.cells mz1, H6.out.cells mz2⟩) (fun hh4 => ?_)
  clear hP P hh3
  simp only [Act.put]
  refine tk 1 14 ⟨some 12, _, _, _, _, _⟩ (.int .i64 nn) rfl (by kernel_rfl) (by rfl) hh4 ?_ ?_
  ·intro w' _
   go_simp
  simp only [Act.put, setIfInBounds_toArray, set_cons_zero, set_cons_succ]
  refine tk 0 15 ⟨some 13, _, _, _, _, _⟩ (.int .i64 er) rfl (by kernel_rfl) (by rfl) hh4 ?_ ?_
  ·intro w' _
   go_simp
  simp only [Act.put, setIfInBounds_toArray, set_cons_zero, set_cons_succ]
  refine wpAnyH_done (by kernel_rfl) ?_ _
  refine NoPanic.normal ?_
  clear hh4 H5 H4 H3
  generalize World.setRow w4 _ _ = w6 at *
  generalize w3.heap.size = m at *
  have hx6 := H6.out.cells mz2
  have hy6 := H6.out.cells mz1
  go_wp2_with fail
  refine (lets_any y _ _).mono ?_
  rintro e w7 ⟨rfl, hb7⟩
  rw [hl]
  have H7 := Lib.hid (H6.out.step hb7)
  clear hb7 hx6 hy6 H6
  go_wp2
  go_ret2
  exact ⟨rfl, H7.out.drop.drop.drop⟩

set_option maxRecDepth 100000 in
set_option maxHeartbeats 4000000 in
theorem do_load (h : OwnP w0 K c core n s bx w) (xk xa xv : Int) {d : Wd} {nn er : Int} (hap : Me.apP c (look c s (adL c xa)).wd ⟨xk, xa, xv⟩ = (d, nn, er)) (e1 : (er != 0) = false) (k1 : (xk != 1) = false) (hl : letsB (look c s (adL c xa)) false = true) :
  Calls Tryz.prog 20 #[ptr K.k, Pg.ov ⟨xk, xa, xv⟩] w fun e w' => e = .returned (.tuple #[.int .i64 nn, .int .i64 0]) ∧ OwnP w0 K c core n s bx w' := by
 have H0 := Lib.hid (h.add (.cells #[.int .i64 xk, .int .i64 xa, .int .i64 xv] 43))
 have HAd := Lib.hid (fun w1 bx (h : OwnP w0 K c core n s bx w1) => h.addr xa)
 have HLk := Lib.hid (fun w1 bx (h : OwnP w0 K c core n s bx w1) => h.look (adL c xa))
 have HP := Lib.hid (fun w1 bx (h : OwnP w0 K c core n s bx w1) => h.apply (look c s (adL c xa)).wd ⟨xk, xa, xv⟩)
 rw [hap] at HP
 have hk := H0.out.kc
 have hx := H0.out.cells mz0
 clear h hap
 generalize look c s (adL c xa) = y at *
 generalize there c s (adL c xa) = q at *
 generalize adL c xa = line at *
 generalize adW c xa = word at *
 generalize adE c xa = ae at *
 go_enter Tryz.func20, Tryz.ntmps20
 go_wp2_with fail
 go_region_held3 (fun w' => (∀ o, w'.cell? ⟨K.k, o, none⟩ = (kcells c core K)[o]?) ∧ (∀ o, w'.cell? ⟨w.heap.size, o, none⟩ = (#[Value.int .i64 xk, .int .i64 xa, .int .i64 xv])[o]?))
  (first | exact ⟨H1.out.kc, H1.out.cells mz0⟩ | exact ⟨hk, hx⟩ | go_keep)
  (first
   | (go_at_call 19; refine (HAd.out _ _ (by first | exact H0.out | exact H0.out.drew)).mono ?_; rintro e w1 ⟨rfl, hb1⟩; have H1 := (by first | exact Lib.hid (H0.out.step hb1) | exact Lib.hid (H0.out.drew.step hb1)); clear hb1))
 clear hk hx
 go_wp2_with fail
 refine (HLk.out _ _ H1.out).mono ?_
 rintro e w2 ⟨rfl, hb2⟩
 have H3 := Lib.hid ((H1.out.step hb2).add (.cells (Ar.ycells y) 66))
 clear hb2 H1
 go_wp2_with fail
 obtain ⟨w3, hw3⟩ : ∃ w3, w3 = w2.alloc (.cells (Ar.ycells y) 66) := ⟨_, rfl⟩
 rw [← hw3] at H3
 change Code.wp _ _ _ _ (w2.alloc (.cells (Ar.ycells y) 66))
 rw [← hw3]
 clear hw3
 refine wp_region_noPanic ?_
 refine wp_region_held_drew (S := (fun w' : World => (∀ o, w'.cell? ⟨K.k, o, none⟩ = (kcells c core K)[o]?) ∧ (∀ o, w'.cell? ⟨w2.heap.size, o, none⟩ = (Ar.ycells y)[o]?) ∧ (∀ o, w'.cell? ⟨w.heap.size, o, none⟩ = (#[Value.int .i64 xk, .int .i64 xa, .int .i64 xv])[o]?))) (by kernel_rfl) ⟨H3.out.kc, H3.out.cells mz0, H3.out.cells mz1⟩ (fun hh => ?_)
 replace H3 := Lib.hid H3.out.drew
 generalize World.drew w3 = w3 at *
 refine tk 15 0 ⟨some 33, _, _, _, _, _⟩ (ptr K.k) rfl (by kernel_rfl) (by rfl) hh ?_ ?_
 ·intro w' _
  go_simp
 simp only [Act.put, setIfInBounds_toArray, set_cons_zero, set_cons_succ]
 refine tk 14 1 ⟨some 34, _, _, _, _, _⟩ (ptr K.k) rfl (by kernel_rfl) (by rfl) hh ?_ ?_
 ·intro w' _
  go_simp
 simp only [Act.put, setIfInBounds_toArray, set_cons_zero, set_cons_succ]
 refine tk 13 2 ⟨some 35, _, _, _, _, _⟩ (ptr K.k) rfl (by kernel_rfl) (by rfl) hh ?_ ?_
 ·intro w' _
  go_simp
 simp only [Act.put, setIfInBounds_toArray, set_cons_zero, set_cons_succ]
 refine tk 12 3 ⟨some 36, _, _, _, _, _⟩ (cv c) rfl (by kernel_rfl) (by rfl) hh ?_ ?_
 ·rintro w' ⟨c0, -, -⟩
  go_simp
 simp only [Act.put, setIfInBounds_toArray, set_cons_zero, set_cons_succ]
 refine tk 11 4 ⟨some 37, _, _, _, _, _⟩ (.pointer (some ⟨w2.heap.size, 2, none⟩)) rfl (by kernel_rfl) (by rfl) hh ?_ ?_
 ·intro w' _
  go_simp
 simp only [Act.put, setIfInBounds_toArray, set_cons_zero, set_cons_succ]
 refine tk 10 5 ⟨some 38, _, _, _, _, _⟩ (.agg (dcells y.wd)) rfl (by kernel_rfl) (by rfl) hh ?_ ?_
 ·rintro w' ⟨-, c0, -⟩
  go_simp
 simp only [Act.put, setIfInBounds_toArray, set_cons_zero, set_cons_succ]
 refine tk 9 6 ⟨some 39, _, _, _, _, _⟩ (.agg #[.int .i64 xk, .int .i64 xa, .int .i64 xv]) rfl (by kernel_rfl) (by rfl) hh ?_ ?_
 ·rintro w' ⟨-, -, c0⟩
  go_simp
 simp only [Act.put, setIfInBounds_toArray, set_cons_zero, set_cons_succ]
 refine wpAnyH_ready (fuel := 8) (rs := [7, 12]) (by kernel_rfl) (by simp) ?_
 refine AllReadyH.cons (o := ⟨some 40, _, _, _, _, _⟩) rfl (fun P hP => ?_) (AllReadyH.cons (o := ⟨some 11, _, _, _, _, _⟩) rfl (fun P hP => ?_) AllReadyH.nil)
 ·go_simp
  refine (HP.out _ _ H3.out).mono ?_
  rintro e w4 ⟨rfl, hb4⟩
  have H4 := Lib.hid (H3.out.step hb4)
  show P _ _
  refine hP.out _ _ (⟨H4.out.kc, H4.out.cells mz0, H4.out.cells mz1⟩) (fun hh2 => ?_)
  clear hP P hh hb4
  refine tk 7 8 ⟨some 32, _, _, _, _, _⟩ (.tuple #[.agg (dcells d), .int .i64 nn, .int .i64 er]) rfl (by kernel_rfl) (by rfl) hh2 ?_ ?_
  ·intro w' _
   go_simp
  simp only [Act.put, setIfInBounds_toArray, set_cons_zero, set_cons_succ]
  refine tk 6 9 ⟨some 41, _, _, _, _, _⟩ (.agg (dcells d)) rfl (by kernel_rfl) (by rfl) hh2 ?_ ?_
  ·intro w' _
   go_simp
  simp only [Act.put, setIfInBounds_toArray, set_cons_zero, set_cons_succ]
  refine tk 5 10 ⟨some 42, _, _, _, _, _⟩ (.int .i64 nn) rfl (by kernel_rfl) (by rfl) hh2 ?_ ?_
  ·intro w' _
   go_simp
  simp only [Act.put, setIfInBounds_toArray, set_cons_zero, set_cons_succ]
  refine tk 4 11 ⟨some 43, _, _, _, _, _⟩ (.int .i64 er) rfl (by kernel_rfl) (by rfl) hh2 ?_ ?_
  ·intro w' _
   go_simp
  simp only [Act.put, setIfInBounds_toArray, set_cons_zero, set_cons_succ]
  refine rd 3 12 ⟨some 11, _, _, _, _, _⟩ rfl (by kernel_rfl) (fun P hP => ?_)
  go_simp
  have H5 := Lib.hid (H4.out.add (.cells #[.int .i64 0, .int .i64 0, .int .i64 0, .int .i64 0, .int .i64 0, .int .i64 0, .int .i64 0, .int .i64 0] 36))
  show P _ _
  refine hP.out _ _ (⟨H5.out.kc, H5.out.cells mz1, H5.out.cells mz2⟩) (fun hh3 => ?_)
  clear hP P hh2
  refine rd 2 13 ⟨none, _, _, _, _, _⟩ rfl (by kernel_rfl) (fun P hP => ?_)
  rw [if_pos (by rfl)]
  refine wp_store_row 36 (.tmp 11) (.tmp 41) rfl w4.heap.size (dcells d) rfl rfl 36 #[.int .i64 0, .int .i64 0, .int .i64 0, .int .i64 0, .int .i64 0, .int .i64 0, .int .i64 0, .int .i64 0] (H5.out.box mz0) (by kernel_rfl) rfl (by kernel_rfl) ?_
  have H6 := Lib.hid (H5.out.setRow (cs' := dcells d))
  refine hP.out _ _ (⟨H6.out.kc, H6.out.cells mz1, H6.out.cells mz2⟩) (fun hh4 => ?_)
  clear hP P hh3
  simp only [Act.put]
  refine tk 1 14 ⟨some 12, _, _, _, _, _⟩ (.int .i64 nn) rfl (by kernel_rfl) (by rfl) hh4 ?_ ?_
  ·intro w' _
   go_simp
  simp only [Act.put, setIfInBounds_toArray, set_cons_zero, set_cons_succ]
  refine tk 0 15 ⟨some 13, _, _, _, _, _⟩ (.int .i64 er) rfl (by kernel_rfl) (by rfl) hh4 ?_ ?_
  ·intro w' _
   go_simp
  simp only [Act.put, setIfInBounds_toArray, set_cons_zero, set_cons_succ]
  refine wpAnyH_done (by kernel_rfl) ?_ _
  refine NoPanic.normal ?_
  clear hh4 H5 H4 H3
  generalize World.setRow (World.alloc w4 _) _ _ = w6 at *
  generalize w4.heap.size = m at *
  have hx6 := H6.out.cells mz2
  have hy6 := H6.out.cells mz1
  go_wp2_with fail
  refine (lets_any y _ _).mono ?_
  rintro e w7 ⟨rfl, hb7⟩
  rw [hl]
  have H7 := Lib.hid (H6.out.step hb7)
  clear hb7 hx6 hy6 H6
  go_wp2
  go_ret2
  exact ⟨rfl, H7.out.drop.drop.drop⟩
 ·go_simp
  have H4 := Lib.hid (H3.out.add (.cells #[.int .i64 0, .int .i64 0, .int .i64 0, .int .i64 0, .int .i64 0, .int .i64 0, .int .i64 0, .int .i64 0] 36))
  show P _ _
  refine hP.out _ _ (⟨H4.out.kc, H4.out.cells mz1, H4.out.cells mz2⟩) (fun hh2 => ?_)
  clear hP P hh
  refine rd 7 7 ⟨some 40, _, _, _, _, _⟩ rfl (by kernel_rfl) (fun P hP => ?_)
  go_simp
  refine (HP.out _ _ H4.out).mono ?_
  rintro e w4 ⟨rfl, hb4⟩
  have H5 := Lib.hid (H4.out.step hb4)
  show P _ _
  refine hP.out _ _ (⟨H5.out.kc, H5.out.cells mz1, H5.out.cells mz2⟩) (fun hh3 => ?_)
  clear hP P hh2 hb4
  refine tk 6 8 ⟨some 32, _, _, _, _, _⟩ (.tuple #[.agg (dcells d), .int .i64 nn, .int .i64 er]) rfl (by kernel_rfl) (by rfl) hh3 ?_ ?_
  ·intro w' _
   go_simp
  simp only [Act.put, setIfInBounds_toArray, set_cons_zero, set_cons_succ]
  refine tk 5 9 ⟨some 41, _, _, _, _, _⟩ (.agg (dcells d)) rfl (by kernel_rfl) (by rfl) hh3 ?_ ?_
  ·intro w' _
   go_simp
  simp only [Act.put, setIfInBounds_toArray, set_cons_zero, set_cons_succ]
  refine tk 4 10 ⟨some 42, _, _, _, _, _⟩ (.int .i64 nn) rfl (by kernel_rfl) (by rfl) hh3 ?_ ?_
  ·intro w' _
   go_simp
  simp only [Act.put, setIfInBounds_toArray, set_cons_zero, set_cons_succ]
  refine tk 3 11 ⟨some 43, _, _, _, _, _⟩ (.int .i64 er) rfl (by kernel_rfl) (by rfl) hh3 ?_ ?_
  ·intro w' _
   go_simp
  simp only [Act.put, setIfInBounds_toArray, set_cons_zero, set_cons_succ]
  refine rd 2 13 ⟨none, _, _, _, _, _⟩ rfl (by kernel_rfl) (fun P hP => ?_)
  rw [if_pos (by rfl)]
  refine wp_store_row 36 (.tmp 11) (.tmp 41) rfl w3.heap.size (dcells d) rfl rfl 36 #[.int .i64 0, .int .i64 0, .int .i64 0, .int .i64 0, .int .i64 0, .int .i64 0, .int .i64 0, .int .i64 0] (H5.out.box mz0) (by kernel_rfl) rfl (by kernel_rfl) ?_
  have H6 := Lib.hid (H5.out.setRow (cs' := dcells d))
  refine hP.out _ _ (⟨H6.out.kc, H6.out.cells mz1, H6.out.cells mz2⟩) (fun hh4 => ?_)
  clear hP P hh3
  simp only [Act.put]
  refine tk 1 14 ⟨some 12, _, _, _, _, _⟩ (.int .i64 nn) rfl (by kernel_rfl) (by rfl) hh4 ?_ ?_
  ·intro w' _
   go_simp
  simp only [Act.put, setIfInBounds_toArray, set_cons_zero, set_cons_succ]
  refine tk 0 15 ⟨some 13, _, _, _, _, _⟩ (.int .i64 er) rfl (by kernel_rfl) (by rfl) hh4 ?_ ?_
  ·intro w' _
   go_simp
  simp only [Act.put, setIfInBounds_toArray, set_cons_zero, set_cons_succ]
  refine wpAnyH_done (by kernel_rfl) ?_ _
  refine NoPanic.normal ?_
  clear hh4 H5 H4 H3
  generalize World.setRow w4 _ _ = w6 at *
  generalize w3.heap.size = m at *
  have hx6 := H6.out.cells mz2
  have hy6 := H6.out.cells mz1
  go_wp2_with fail
  refine (lets_any y _ _).mono ?_
  rintro e w7 ⟨rfl, hb7⟩
  rw [hl]
  have H7 := Lib.hid (H6.out.step hb7)
  clear hb7 hx6 hy6 H6
  go_wp2
  go_ret2
  exact ⟨rfl, H7.out.drop.drop.drop⟩

set_option maxRecDepth 100000 in
set_option maxHeartbeats 4000000 in
theorem do_set (h : OwnP w0 K c core n s bx w) (xk xa xv : Int) {d : Wd} {nn er : Int} (hap : Me.apP c (look c s (adL c xa)).wd ⟨xk, xa, xv⟩ = (d, nn, er)) (e1 : (er != 0) = false) (k1 : (xk != 1) = true) (hl : letsB (look c s (adL c xa)) true = true) :
  Calls Tryz.prog 20 #[ptr K.k, Pg.ov ⟨xk, xa, xv⟩] w fun e w' => e = .returned (.tuple #[.int .i64 nn, .int .i64 0]) ∧ OwnP w0 K c core n (setA c s (adL c xa) 4 d) bx w' := by
 have H0 := Lib.hid (h.add (.cells #[.int .i64 xk, .int .i64 xa, .int .i64 xv] 43))
 have HAd := Lib.hid (fun w1 bx (h : OwnP w0 K c core n s bx w1) => h.addr xa)
 have HLk := Lib.hid (fun w1 bx (h : OwnP w0 K c core n s bx w1) => h.look (adL c xa))
 have HP := Lib.hid (fun w1 bx (h : OwnP w0 K c core n s bx w1) => h.apply (look c s (adL c xa)).wd ⟨xk, xa, xv⟩)
 rw [hap] at HP
 have hk := H0.out.kc
 have hx := H0.out.cells mz0
 clear h hap
 generalize look c s (adL c xa) = y at *
 generalize there c s (adL c xa) = q at *
 generalize adL c xa = line at *
 generalize adW c xa = word at *
 generalize adE c xa = ae at *
 go_enter Tryz.func20, Tryz.ntmps20
 go_wp2_with fail
 go_region_held3 (fun w' => (∀ o, w'.cell? ⟨K.k, o, none⟩ = (kcells c core K)[o]?) ∧ (∀ o, w'.cell? ⟨w.heap.size, o, none⟩ = (#[Value.int .i64 xk, .int .i64 xa, .int .i64 xv])[o]?))
  (first | exact ⟨H1.out.kc, H1.out.cells mz0⟩ | exact ⟨hk, hx⟩ | go_keep)
  (first
   | (go_at_call 19; refine (HAd.out _ _ (by first | exact H0.out | exact H0.out.drew)).mono ?_; rintro e w1 ⟨rfl, hb1⟩; have H1 := (by first | exact Lib.hid (H0.out.step hb1) | exact Lib.hid (H0.out.drew.step hb1)); clear hb1))
 clear hk hx
 go_wp2_with fail
 refine (HLk.out _ _ H1.out).mono ?_
 rintro e w2 ⟨rfl, hb2⟩
 have H3 := Lib.hid ((H1.out.step hb2).add (.cells (Ar.ycells y) 66))
 clear hb2 H1
 go_wp2_with fail
 obtain ⟨w3, hw3⟩ : ∃ w3, w3 = w2.alloc (.cells (Ar.ycells y) 66) := ⟨_, rfl⟩
 rw [← hw3] at H3
 change Code.wp _ _ _ _ (w2.alloc (.cells (Ar.ycells y) 66))
 rw [← hw3]
 clear hw3
 refine wp_region_noPanic ?_
 refine wp_region_held_drew (S := (fun w' : World => (∀ o, w'.cell? ⟨K.k, o, none⟩ = (kcells c core K)[o]?) ∧ (∀ o, w'.cell? ⟨w2.heap.size, o, none⟩ = (Ar.ycells y)[o]?) ∧ (∀ o, w'.cell? ⟨w.heap.size, o, none⟩ = (#[Value.int .i64 xk, .int .i64 xa, .int .i64 xv])[o]?))) (by kernel_rfl) ⟨H3.out.kc, H3.out.cells mz0, H3.out.cells mz1⟩ (fun hh => ?_)
 replace H3 := Lib.hid H3.out.drew
 generalize World.drew w3 = w3 at *
 refine tk 15 0 ⟨some 33, _, _, _, _, _⟩ (ptr K.k) rfl (by kernel_rfl) (by rfl) hh ?_ ?_
 ·intro w' _
  go_simp
 simp only [Act.put, setIfInBounds_toArray, set_cons_zero, set_cons_succ]
 refine tk 14 1 ⟨some 34, _, _, _, _, _⟩ (ptr K.k) rfl (by kernel_rfl) (by rfl) hh ?_ ?_
 ·intro w' _
  go_simp
 simp only [Act.put, setIfInBounds_toArray, set_cons_zero, set_cons_succ]
 refine tk 13 2 ⟨some 35, _, _, _, _, _⟩ (ptr K.k) rfl (by kernel_rfl) (by rfl) hh ?_ ?_
 ·intro w' _
  go_simp
 simp only [Act.put, setIfInBounds_toArray, set_cons_zero, set_cons_succ]
 refine tk 12 3 ⟨some 36, _, _, _, _, _⟩ (cv c) rfl (by kernel_rfl) (by rfl) hh ?_ ?_
 ·rintro w' ⟨c0, -, -⟩
  go_simp
 simp only [Act.put, setIfInBounds_toArray, set_cons_zero, set_cons_succ]
 refine tk 11 4 ⟨some 37, _, _, _, _, _⟩ (.pointer (some ⟨w2.heap.size, 2, none⟩)) rfl (by kernel_rfl) (by rfl) hh ?_ ?_
 ·intro w' _
  go_simp
 simp only [Act.put, setIfInBounds_toArray, set_cons_zero, set_cons_succ]
 refine tk 10 5 ⟨some 38, _, _, _, _, _⟩ (.agg (dcells y.wd)) rfl (by kernel_rfl) (by rfl) hh ?_ ?_
 ·rintro w' ⟨-, c0, -⟩
  go_simp
 simp only [Act.put, setIfInBounds_toArray, set_cons_zero, set_cons_succ]
 refine tk 9 6 ⟨some 39, _, _, _, _, _⟩ (.agg #[.int .i64 xk, .int .i64 xa, .int .i64 xv]) rfl (by kernel_rfl) (by rfl) hh ?_ ?_
 ·rintro w' ⟨-, -, c0⟩
  go_simp
 simp only [Act.put, setIfInBounds_toArray, set_cons_zero, set_cons_succ]
 refine wpAnyH_ready (fuel := 8) (rs := [7, 12]) (by kernel_rfl) (by simp) ?_
 refine AllReadyH.cons (o := ⟨some 40, _, _, _, _, _⟩) rfl (fun P hP => ?_) (AllReadyH.cons (o := ⟨some 11, _, _, _, _, _⟩) rfl (fun P hP => ?_) AllReadyH.nil)
 ·go_simp
  refine (HP.out _ _ H3.out).mono ?_
  rintro e w4 ⟨rfl, hb4⟩
  have H4 := Lib.hid (H3.out.step hb4)
  show P _ _
  refine hP.out _ _ (⟨H4.out.kc, H4.out.cells mz0, H4.out.cells mz1⟩) (fun hh2 => ?_)
  clear hP P hh hb4
  refine tk 7 8 ⟨some 32, _, _, _, _, _⟩ (.tuple #[.agg (dcells d), .int .i64 nn, .int .i64 er]) rfl (by kernel_rfl) (by rfl) hh2 ?_ ?_
  ·intro w' _
   go_simp
  simp only [Act.put, setIfInBounds_toArray, set_cons_zero, set_cons_succ]
  refine tk 6 9 ⟨some 41, _, _, _, _, _⟩ (.agg (dcells d)) rfl (by kernel_rfl) (by rfl) hh2 ?_ ?_
  ·intro w' _
   go_simp
  simp only [Act.put, setIfInBounds_toArray, set_cons_zero, set_cons_succ]
  refine tk 5 10 ⟨some 42, _, _, _, _, _⟩ (.int .i64 nn) rfl (by kernel_rfl) (by rfl) hh2 ?_ ?_
  ·intro w' _
   go_simp
  simp only [Act.put, setIfInBounds_toArray, set_cons_zero, set_cons_succ]
  refine tk 4 11 ⟨some 43, _, _, _, _, _⟩ (.int .i64 er) rfl (by kernel_rfl) (by rfl) hh2 ?_ ?_
  ·intro w' _
   go_simp
  simp only [Act.put, setIfInBounds_toArray, set_cons_zero, set_cons_succ]
  refine rd 3 12 ⟨some 11, _, _, _, _, _⟩ rfl (by kernel_rfl) (fun P hP => ?_)
  go_simp
  have H5 := Lib.hid (H4.out.add (.cells #[.int .i64 0, .int .i64 0, .int .i64 0, .int .i64 0, .int .i64 0, .int .i64 0, .int .i64 0, .int .i64 0] 36))
  show P _ _
  refine hP.out _ _ (⟨H5.out.kc, H5.out.cells mz1, H5.out.cells mz2⟩) (fun hh3 => ?_)
  clear hP P hh2
  refine rd 2 13 ⟨none, _, _, _, _, _⟩ rfl (by kernel_rfl) (fun P hP => ?_)
  rw [if_pos (by rfl)]
  refine wp_store_row 36 (.tmp 11) (.tmp 41) rfl w4.heap.size (dcells d) rfl rfl 36 #[.int .i64 0, .int .i64 0, .int .i64 0, .int .i64 0, .int .i64 0, .int .i64 0, .int .i64 0, .int .i64 0] (H5.out.box mz0) (by kernel_rfl) rfl (by kernel_rfl) ?_
  have H6 := Lib.hid (H5.out.setRow (cs' := dcells d))
  refine hP.out _ _ (⟨H6.out.kc, H6.out.cells mz1, H6.out.cells mz2⟩) (fun hh4 => ?_)
  clear hP P hh3
  simp only [Act.put]
  refine tk 1 14 ⟨some 12, _, _, _, _, _⟩ (.int .i64 nn) rfl (by kernel_rfl) (by rfl) hh4 ?_ ?_
  ·intro w' _
   go_simp
  simp only [Act.put, setIfInBounds_toArray, set_cons_zero, set_cons_succ]
  refine tk 0 15 ⟨some 13, _, _, _, _, _⟩ (.int .i64 er) rfl (by kernel_rfl) (by rfl) hh4 ?_ ?_
  ·intro w' _
   go_simp
  simp only [Act.put, setIfInBounds_toArray, set_cons_zero, set_cons_succ]
  refine wpAnyH_done (by kernel_rfl) ?_ _
  refine NoPanic.normal ?_
  clear hh4 H5 H4 H3
  generalize World.setRow (World.alloc w4 _) _ _ = w6 at *
  generalize w4.heap.size = m at *
  have hx6 := H6.out.cells mz2
  have hy6 := H6.out.cells mz1
  go_wp2_with fail
  refine (lets_any y _ _).mono ?_
  rintro e w7 ⟨rfl, hb7⟩
  rw [hl]
  have H7 := Lib.hid (H6.out.step hb7)
  clear hb7 hx6 hy6 H6
  have hk7 := H7.out.kc
  have hd7 := H7.out.cells mz0
  go_wp2_with fail
  go_region_held3 (fun w' => (∀ o, w'.cell? ⟨K.k, o, none⟩ = (kcells c core K)[o]?) ∧ (∀ o, w'.cell? ⟨m, o, none⟩ = (dcells d)[o]?))
   (first | exact ⟨H8.out.kc, H8.out.cells mz0⟩ | exact ⟨hk7, hd7⟩ | go_keep)
   (first
    | (go_at_call 50; refine ((by first | exact H7.out | exact H7.out.drew : OwnP w0 K c core n s _ _).set line 4 d).mono ?_; rintro e w8 ⟨⟨i8, rfl⟩, ho⟩; have H8 := Lib.hid ho; clear ho))
  go_wp2
  go_ret2
  exact ⟨rfl, H8.out.drop.drop.drop⟩
 ·go_simp
  have H4 := Lib.hid (H3.out.add (.cells #[.int .i64 0, .int .i64 0, .int .i64 0, .int .i64 0, .int .i64 0, .int .i64 0, .int .i64 0, .int .i64 0] 36))
  show P _ _
  refine hP.out _ _ (⟨H4.out.kc, H4.out.cells mz1, H4.out.cells mz2⟩) (fun hh2 => ?_)
  clear hP P hh
  refine rd 7 7 ⟨some 40, _, _, _, _, _⟩ rfl (by kernel_rfl) (fun P hP => ?_)
  go_simp
  refine (HP.out _ _ H4.out).mono ?_
  rintro e w4 ⟨rfl, hb4⟩
  have H5 := Lib.hid (H4.out.step hb4)
  show P _ _
  refine hP.out _ _ (⟨H5.out.kc, H5.out.cells mz1, H5.out.cells mz2⟩) (fun hh3 => ?_)
  clear hP P hh2 hb4
  refine tk 6 8 ⟨some 32, _, _, _, _, _⟩ (.tuple #[.agg (dcells d), .int .i64 nn, .int .i64 er]) rfl (by kernel_rfl) (by rfl) hh3 ?_ ?_
  ·intro w' _
   go_simp
  simp only [Act.put, setIfInBounds_toArray, set_cons_zero, set_cons_succ]
  refine tk 5 9 ⟨some 41, _, _, _, _, _⟩ (.agg (dcells d)) rfl (by kernel_rfl) (by rfl) hh3 ?_ ?_
  ·intro w' _
   go_simp
  simp only [Act.put, setIfInBounds_toArray, set_cons_zero, set_cons_succ]
  refine tk 4 10 ⟨some 42, _, _, _, _, _⟩ (.int .i64 nn) rfl (by kernel_rfl) (by rfl) hh3 ?_ ?_
  ·intro w' _
   go_simp
  simp only [Act.put, setIfInBounds_toArray, set_cons_zero, set_cons_succ]
  refine tk 3 11 ⟨some 43, _, _, _, _, _⟩ (.int .i64 er) rfl (by kernel_rfl) (by rfl) hh3 ?_ ?_
  ·intro w' _
   go_simp
  simp only [Act.put, setIfInBounds_toArray, set_cons_zero, set_cons_succ]
  refine rd 2 13 ⟨none, _, _, _, _, _⟩ rfl (by kernel_rfl) (fun P hP => ?_)
  rw [if_pos (by rfl)]
  refine wp_store_row 36 (.tmp 11) (.tmp 41) rfl w3.heap.size (dcells d) rfl rfl 36 #[.int .i64 0, .int .i64 0, .int .i64 0, .int .i64 0, .int .i64 0, .int .i64 0, .int .i64 0, .int .i64 0] (H5.out.box mz0) (by kernel_rfl) rfl (by kernel_rfl) ?_
  have H6 := Lib.hid (H5.out.setRow (cs' := dcells d))
  refine hP.out _ _ (⟨H6.out.kc, H6.out.cells mz1, H6.out.cells mz2⟩) (fun hh4 => ?_)
  clear hP P hh3
  simp only [Act.put]
  refine tk 1 14 ⟨some 12, _, _, _, _, _⟩ (.int .i64 nn) rfl (by kernel_rfl) (by rfl) hh4 ?_ ?_
  ·intro w' _
   go_simp
  simp only [Act.put, setIfInBounds_toArray, set_cons_zero, set_cons_succ]
  refine tk 0 15 ⟨some 13, _, _, _, _, _⟩ (.int .i64 er) rfl (by kernel_rfl) (by rfl) hh4 ?_ ?_
  ·intro w' _
   go_simp
  simp only [Act.put, setIfInBounds_toArray, set_cons_zero, set_cons_succ]
  refine wpAnyH_done (by kernel_rfl) ?_ _
  refine NoPanic.normal ?_
  clear hh4 H5 H4 H3
  generalize World.setRow w4 _ _ = w6 at *
  generalize w3.heap.size = m at *
  have hx6 := H6.out.cells mz2
  have hy6 := H6.out.cells mz1
  go_wp2_with fail
  refine (lets_any y _ _).mono ?_
  rintro e w7 ⟨rfl, hb7⟩
  rw [hl]
  have H7 := Lib.hid (H6.out.step hb7)
  clear hb7 hx6 hy6 H6
  have hk7 := H7.out.kc
  have hd7 := H7.out.cells mz0
  go_wp2_with fail
  go_region_held3 (fun w' => (∀ o, w'.cell? ⟨K.k, o, none⟩ = (kcells c core K)[o]?) ∧ (∀ o, w'.cell? ⟨m, o, none⟩ = (dcells d)[o]?))
   (first | exact ⟨H8.out.kc, H8.out.cells mz0⟩ | exact ⟨hk7, hd7⟩ | go_keep)
   (first
    | (go_at_call 50; refine ((by first | exact H7.out | exact H7.out.drew : OwnP w0 K c core n s _ _).set line 4 d).mono ?_; rintro e w8 ⟨⟨i8, rfl⟩, ho⟩; have H8 := Lib.hid ho; clear ho))
  go_wp2
  go_ret2
  exact ⟨rfl, H8.out.drop.drop.drop⟩

theorem Own.doX (h : OwnP w0 K c core n s bx w) (x : Pg.Op) :
  Calls Tryz.prog 20 #[ptr K.k, Pg.ov x] w fun e w' => e = .returned (.tuple #[.int .i64 (doP c s x).1.1, .int .i64 (doP c s x).1.2]) ∧ OwnP w0 K c core n (doP c s x).2 bx w' := by
 obtain ⟨xk, xa, xv⟩ := x
 unfold doP
 rcases hap : Me.apP c (Go.Proofs.YtlfhkjjjocmpbaaGreatDoor.Cc.look c s (adL c xa)).wd ⟨xk, xa, xv⟩ with ⟨d, nn, er⟩
 by_cases e1 : er = 0
 ·simp only [hap, if_neg (show ¬ er ≠ 0 from fun q => q e1)]
  have b1 : (er != 0) = false := by simpa using e1
  rcases Bool.eq_false_or_eq_true (letsB (Go.Proofs.YtlfhkjjjocmpbaaGreatDoor.Cc.look c s (adL c xa)) (xk != 1)) with hl | hl
  ·rw [if_neg (show ¬ letsB (Go.Proofs.YtlfhkjjjocmpbaaGreatDoor.Cc.look c s (adL c xa)) (xk != 1) = false by simp [hl])]
   rcases Bool.eq_false_or_eq_true (xk != 1) with k1 | k1
   ·rw [k1] at hl
    rw [if_pos k1]
    exact do_set h xk xa xv hap b1 k1 hl
   ·rw [k1] at hl
    rw [if_neg (show ¬ (xk != 1) = true by simp [k1])]
    exact do_load h xk xa xv hap b1 k1 hl
  ·rw [if_pos hl]
   exact do_lets h xk xa xv hap b1 hl
 ·simp only [hap, if_pos e1]
  exact do_err h xk xa xv hap (by simpa using e1)

end Go.Proofs.YtlfhkjjjocmpbaaGreatDoor.Cc
