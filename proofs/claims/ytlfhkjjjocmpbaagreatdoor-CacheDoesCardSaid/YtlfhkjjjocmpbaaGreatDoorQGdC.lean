import Derived.Test.YtlfhkjjjocmpbaaGreatDoorSx
import Derived.Test.YtlfhkjjjocmpbaaGreatDoorQCdC

namespace Go.Proofs.YtlfhkjjjocmpbaaGreatDoor.Cc
open Go Go.RowKit
open List (setIfInBounds_toArray set_cons_zero set_cons_succ)

variable {w0 w w' : World} {bx : Bx} {K : Kb} {c : Cfg} {core n : Int} {s : St}
set_option maxRecDepth 100000 in
set_option maxHeartbeats 4000000 in
theorem dask_there (h : OwnD w0 K c core n s bx w) (line kind : Int) {gx : Mh.Ms} {pl : Int} (hl : 0 ≤ line ∧ line < c.li) (hkd : (kind != 1) = false ∨ (kind != 1) = true ∧ (kind != 2) = false) (hg : Mh.getP s.F line = (gx, false)) (hp : Wb.oi (Wb.fnd s.B line) = pl) (hc : canB (look c s line) kind = false) (hpl : ¬ 0 ≤ pl) (hfl : ¬ c.ms ≤ (s.F.length : Int)) (hth : there c s line = true) :
  Calls Tryz.prog 36 #[ptr K.k, .int .i64 line, .int .i64 kind] w (RetA ⟨kind, line, core, line % c.ho, 0, 0, 0, 0, 0, 0, 0, 0, 0, 0, 0⟩ 0 (OwnD w0 K c core (n + 1) ⟨(Ar.lockP c s.A line true).2, (Mh.openP c.ms s.F line kind).2, s.B⟩ bx)) := by
 have H0 := Lib.hid (h.add2 (.cells #[.int .i64 0, .int .i64 0, .int .i64 0, .int .i64 0, .int .i64 0, .int .i64 0, .int .i64 0, .int .i64 0, .int .i64 0, .int .i64 0, .int .i64 0, .int .i64 0, .int .i64 0, .int .i64 0, .int .i64 0] 38) (.cells #[.int .i64 0, .int .i64 0, .int .i64 0, .int .i64 0, .int .i64 0, .int .i64 0, .int .i64 0, .int .i64 0, .int .i64 0, .int .i64 0, .int .i64 0, .int .i64 0, .int .i64 0, .int .i64 0, .int .i64 0] 38))
 have HG := Lib.hid (H0.out.dget line)
 have HP := Lib.hid (fun w1 bx (h : OwnD w0 K c core n s bx w1) => h.dplace line)
 have HC := Lib.hid (fun w1 bx (h : OwnD w0 K c core n s bx w1) => h.dcan line kind)
 rw [hg] at HG
 rw [hp] at HP
 rw [hc] at HC
 have g0 : ¬ line < 0 := by omega
 have g1 : ¬ c.li ≤ line := by omega
 have hk := H0.out.kc
 obtain ⟨hh1, hh2⟩ := (ok_pows c h.nums.1).2.1.2
 have gho : ¬ c.ho = 0 := by omega
 have gmd : (line.tmod c.ho) = line % c.ho := Int.tmod_eq_emod_of_nonneg hl.1
 clear h hg hp hc
 have HFd := Lib.hid (fun w1 bx (h : OwnD w0 K c core n s bx w1) => h.dfind line)
 have HFr := Lib.hid (fun w1 bx (h : OwnD w0 K c core n s bx w1) => h.dfree line)
 rw [show there c s line = true from hth] at HFd
 generalize look c s line = y at *
 generalize (Ar.fnd c s.A line).2.1 = yi at *
 have gfl : ¬ c.ms ≤ (s.F.length : Int) := hfl
 clear hth hfl
 rcases hkd with k1 | ⟨k1, k2⟩
 all_goals
  go_enter Tryz.func36, Tryz.ntmps36
  go_wp2_with fail
  refine HG.out.mono ?_
  rintro e w1 ⟨rfl, hb1⟩
  have H1 := Lib.hid ((H0.out.step hb1).add (.cells (Mh.mcells gx) 75))
  have hk1 := H1.out.kc
  clear hb1 hk HG
  go_wp2_with fail
  refine (HP.out _ _ H1.out).mono ?_
  rintro e w2 ⟨rfl, rfl⟩
  go_wp2_with fail
  refine (HC.out _ _ H1.out).mono ?_
  rintro e w2 ⟨rfl, hb2⟩
  replace H1 := Lib.hid (H1.out.step hb2)
  clear hb2 hk1
  have hk1 := H1.out.kc
  obtain ⟨fp, fc, hf⟩ := H1.out.fcell
  go_wp2_with fail
  go_quiet (fail)
  generalize hw3 : World.drewN w2 _ = w3
  replace H1 : Hid (OwnD w0 K c core n s _ w3) := Lib.hid (by rw [← hw3]; exact H1.out.drewN _)
  clear hk1 hf hw3
  have hk1 := H1.out.kc
  go_wp2_with fail
  refine (HFd.out _ _ H1.out).mono ?_
  rintro e w4 ⟨rfl, hb4⟩
  have H4 := Lib.hid ((H1.out.step hb4).add (.cells (Ar.ycells y) 69))
  have hk4 := H4.out.kc
  clear hb4 hk1 H1
  go_wp2_with fail
  refine (H4.out.dlock line true).mono ?_
  rintro e w7 ⟨⟨i7, rfl⟩, ho⟩
  have H7 := Lib.hid ho
  have hk7 := H7.out.kc
  clear ho hk4 H4
  go_wp2_with fail
  refine (H7.out.dopen line kind).mono ?_
  rintro e w8 ⟨⟨i8, rfl⟩, ho⟩
  have H8 := Lib.hid ho
  clear ho hk7 H7
  go_upto_region 17 with fail
  refine wp_region_noPanic ?_
  refine wp_region_held_drew (S := (fun w' : World => (∀ o, w'.cell? ⟨K.k, o, none⟩ = (kcells c core K)[o]?))) (by kernel_rfl) H8.out.kc (fun hh0 => ?_)
  replace H8 := Lib.hid H8.out.drew
  generalize World.drew w8 = w8 at *
  refine tk 15 0 ⟨some 118, _, _, _, _, _⟩ (.int .i64 kind) rfl (by kernel_rfl) (by rfl) hh0 ?_ ?_
  ·intro w' _
   go_simp
  simp only [Act.put, setIfInBounds_toArray, set_cons_zero, set_cons_succ]
  refine tk 14 1 ⟨some 119, _, _, _, _, _⟩ (.int .i64 line) rfl (by kernel_rfl) (by rfl) hh0 ?_ ?_
  ·intro w' _
   go_simp
  simp only [Act.put, setIfInBounds_toArray, set_cons_zero, set_cons_succ]
  refine tk 13 2 ⟨some 120, _, _, _, _, _⟩ (ptr K.k) rfl (by kernel_rfl) (by rfl) hh0 ?_ ?_
  ·intro w' _
   go_simp
  simp only [Act.put, setIfInBounds_toArray, set_cons_zero, set_cons_succ]
  refine tk 12 3 ⟨some 121, _, _, _, _, _⟩ (ptr K.k) rfl (by kernel_rfl) (by rfl) hh0 ?_ ?_
  ·intro w' _
   go_simp
  simp only [Act.put, setIfInBounds_toArray, set_cons_zero, set_cons_succ]
  refine tk 11 4 ⟨some 122, _, _, _, _, _⟩ (.pointer (some ⟨K.k, 13, none⟩)) rfl (by kernel_rfl) (by rfl) hh0 ?_ ?_
  ·intro w' _
   go_simp
  simp only [Act.put, setIfInBounds_toArray, set_cons_zero, set_cons_succ]
  refine tk 10 5 ⟨some 123, _, _, _, _, _⟩ (.int .i64 core) rfl (by kernel_rfl) (by rfl) hh0 ?_ ?_
  ·rintro w' c0
   go_simp
  simp only [Act.put, setIfInBounds_toArray, set_cons_zero, set_cons_succ]
  refine tk 9 6 ⟨some 124, _, _, _, _, _⟩ (.int .i64 line) rfl (by kernel_rfl) (by rfl) hh0 ?_ ?_
  ·intro w' _
   go_simp
  simp only [Act.put, setIfInBounds_toArray, set_cons_zero, set_cons_succ]
  refine tk 8 7 ⟨some 125, _, _, _, _, _⟩ (ptr K.k) rfl (by kernel_rfl) (by rfl) hh0 ?_ ?_
  ·intro w' _
   go_simp
  simp only [Act.put, setIfInBounds_toArray, set_cons_zero, set_cons_succ]
  refine tk 7 8 ⟨some 126, _, _, _, _, _⟩ (ptr K.k) rfl (by kernel_rfl) (by rfl) hh0 ?_ ?_
  ·intro w' _
   go_simp
  simp only [Act.put, setIfInBounds_toArray, set_cons_zero, set_cons_succ]
  refine tk 6 9 ⟨some 127, _, _, _, _, _⟩ (ptr K.k) rfl (by kernel_rfl) (by rfl) hh0 ?_ ?_
  ·intro w' _
   go_simp
  simp only [Act.put, setIfInBounds_toArray, set_cons_zero, set_cons_succ]
  refine tk 5 10 ⟨some 128, _, _, _, _, _⟩ (.pointer (some ⟨K.k, 1, none⟩)) rfl (by kernel_rfl) (by rfl) hh0 ?_ ?_
  ·intro w' _
   go_simp
  simp only [Act.put, setIfInBounds_toArray, set_cons_zero, set_cons_succ]
  refine tk 4 11 ⟨some 129, _, _, _, _, _⟩ (.int .i64 c.ho) rfl (by kernel_rfl) (by rfl) hh0 ?_ ?_
  ·rintro w' c0
   go_simp
  simp only [Act.put, setIfInBounds_toArray, set_cons_zero, set_cons_succ]
  refine tk 3 12 ⟨some 130, _, _, _, _, _⟩ (.int .i64 (line % c.ho)) rfl (by kernel_rfl) (by rfl) hh0 ?_ ?_
  ·intro w' _
   go_simp
  simp only [Act.put, setIfInBounds_toArray, set_cons_zero, set_cons_succ]
  refine tk 2 13 ⟨some 131, _, _, _, _, _⟩ (.agg (#[.int .i64 kind, .int .i64 line, .int .i64 core, .int .i64 (line % c.ho), .int .i64 0, .int .i64 0, .int .i64 0, .int .i64 0, .int .i64 0, .int .i64 0, .int .i64 0, .int .i64 0, .int .i64 0, .int .i64 0, .int .i64 0])) rfl (by kernel_rfl) (by rfl) hh0 ?_ ?_
  ·intro w' _
   go_simp
  simp only [Act.put, setIfInBounds_toArray, set_cons_zero, set_cons_succ]
  refine rd 1 14 ⟨none, _, _, _, _, _⟩ rfl (by kernel_rfl) (fun P hP => ?_)
  rw [if_pos (by rfl)]
  refine wp_store_row 38 (.tmp 6) (.tmp 131) rfl (w.heap.size) (#[.int .i64 kind, .int .i64 line, .int .i64 core, .int .i64 (line % c.ho), .int .i64 0, .int .i64 0, .int .i64 0, .int .i64 0, .int .i64 0, .int .i64 0, .int .i64 0, .int .i64 0, .int .i64 0, .int .i64 0, .int .i64 0]) rfl rfl 38 (#[.int .i64 0, .int .i64 0, .int .i64 0, .int .i64 0, .int .i64 0, .int .i64 0, .int .i64 0, .int .i64 0, .int .i64 0, .int .i64 0, .int .i64 0, .int .i64 0, .int .i64 0, .int .i64 0, .int .i64 0]) (H8.out.box mz3) (by kernel_rfl) rfl (by kernel_rfl) ?_
  have H8s := Lib.hid (H8.out.setRow3 (cs' := #[.int .i64 kind, .int .i64 line, .int .i64 core, .int .i64 (line % c.ho), .int .i64 0, .int .i64 0, .int .i64 0, .int .i64 0, .int .i64 0, .int .i64 0, .int .i64 0, .int .i64 0, .int .i64 0, .int .i64 0, .int .i64 0]))
  refine hP.out _ _ (H8s.out.kc) (fun hh1 => ?_)
  clear hP P hh0
  simp only [Act.put]
  refine tk 0 15 ⟨some 7, _, _, _, _, _⟩ (.int .i64 0) rfl (by kernel_rfl) (by rfl) hh1 ?_ ?_
  ·intro w' _
   go_simp
  simp only [Act.put, setIfInBounds_toArray, set_cons_zero, set_cons_succ]
  refine wpAnyH_done (by kernel_rfl) ?_ _
  refine NoPanic.normal ?_
  clear hh1
  go_wp2
  exact dask_ret (m := ⟨kind, line, core, line % c.ho, 0, 0, 0, 0, 0, 0, 0, 0, 0, 0, 0⟩) rfl rfl rfl (H8s.out.box mz3) H8s.out.drop.drop.drop.drop
set_option maxRecDepth 100000 in
set_option maxHeartbeats 4000000 in
theorem dask_lay (h : OwnD w0 K c core n s bx w) (line kind : Int) {gx : Mh.Ms} {pl : Int} (hl : 0 ≤ line ∧ line < c.li) (hkd : (kind != 1) = false ∨ (kind != 1) = true ∧ (kind != 2) = false) (hg : Mh.getP s.F line = (gx, false)) (hp : Wb.oi (Wb.fnd s.B line) = pl) (hc : canB (look c s line) kind = false) (hpl : ¬ 0 ≤ pl) (hfl : ¬ c.ms ≤ (s.F.length : Int)) (hth : there c s line = false) (hfr : 0 ≤ Ar.oi (Ar.fre c s.A line)) :
  Calls Tryz.prog 36 #[ptr K.k, .int .i64 line, .int .i64 kind] w (RetA ⟨kind, line, core, line % c.ho, 0, 0, 0, 0, 0, 0, 0, 0, 0, 0, 0⟩ 0 (OwnD w0 K c core (n + 1) ⟨(Ar.lockP c (Ar.layP c s.A line (Ar.oi (Ar.fre c s.A line))).2 line true).2, (Mh.openP c.ms s.F line kind).2, s.B⟩ bx)) := by
 have H0 := Lib.hid (h.add2 (.cells #[.int .i64 0, .int .i64 0, .int .i64 0, .int .i64 0, .int .i64 0, .int .i64 0, .int .i64 0, .int .i64 0, .int .i64 0, .int .i64 0, .int .i64 0, .int .i64 0, .int .i64 0, .int .i64 0, .int .i64 0] 38) (.cells #[.int .i64 0, .int .i64 0, .int .i64 0, .int .i64 0, .int .i64 0, .int .i64 0, .int .i64 0, .int .i64 0, .int .i64 0, .int .i64 0, .int .i64 0, .int .i64 0, .int .i64 0, .int .i64 0, .int .i64 0] 38))
 have HG := Lib.hid (H0.out.dget line)
 have HP := Lib.hid (fun w1 bx (h : OwnD w0 K c core n s bx w1) => h.dplace line)
 have HC := Lib.hid (fun w1 bx (h : OwnD w0 K c core n s bx w1) => h.dcan line kind)
 rw [hg] at HG
 rw [hp] at HP
 rw [hc] at HC
 have g0 : ¬ line < 0 := by omega
 have g1 : ¬ c.li ≤ line := by omega
 have hk := H0.out.kc
 obtain ⟨hh1, hh2⟩ := (ok_pows c h.nums.1).2.1.2
 have gho : ¬ c.ho = 0 := by omega
 have gmd : (line.tmod c.ho) = line % c.ho := Int.tmod_eq_emod_of_nonneg hl.1
 clear h hg hp hc
 have HFd := Lib.hid (fun w1 bx (h : OwnD w0 K c core n s bx w1) => h.dfind line)
 have HFr := Lib.hid (fun w1 bx (h : OwnD w0 K c core n s bx w1) => h.dfree line)
 rw [show there c s line = false from hth] at HFd
 generalize look c s line = y at *
 generalize (Ar.fnd c s.A line).2.1 = yi at *
 have gfl : ¬ c.ms ≤ (s.F.length : Int) := hfl
 clear hth hfl
 have gfr : ¬ Ar.oi (Ar.fre c s.A line) < 0 := by omega
 generalize Ar.oi (Ar.fre c s.A line) = fr at *
 rcases hkd with k1 | ⟨k1, k2⟩
 all_goals
  go_enter Tryz.func36, Tryz.ntmps36
  go_wp2_with fail
  refine HG.out.mono ?_
  rintro e w1 ⟨rfl, hb1⟩
  have H1 := Lib.hid ((H0.out.step hb1).add (.cells (Mh.mcells gx) 75))
  have hk1 := H1.out.kc
  clear hb1 hk HG
  go_wp2_with fail
  refine (HP.out _ _ H1.out).mono ?_
  rintro e w2 ⟨rfl, rfl⟩
  go_wp2_with fail
  refine (HC.out _ _ H1.out).mono ?_
  rintro e w2 ⟨rfl, hb2⟩
  replace H1 := Lib.hid (H1.out.step hb2)
  clear hb2 hk1
  have hk1 := H1.out.kc
  obtain ⟨fp, fc, hf⟩ := H1.out.fcell
  go_wp2_with fail
  go_quiet (fail)
  generalize hw3 : World.drewN w2 _ = w3
  replace H1 : Hid (OwnD w0 K c core n s _ w3) := Lib.hid (by rw [← hw3]; exact H1.out.drewN _)
  clear hk1 hf hw3
  have hk1 := H1.out.kc
  go_wp2_with fail
  refine (HFd.out _ _ H1.out).mono ?_
  rintro e w4 ⟨rfl, hb4⟩
  have H4 := Lib.hid ((H1.out.step hb4).add (.cells (Ar.ycells y) 69))
  have hk4 := H4.out.kc
  clear hb4 hk1 H1
  go_wp2_with fail
  refine (HFr.out _ _ H4.out).mono ?_
  rintro e w5 ⟨rfl, hb5⟩
  have H5 := Lib.hid (H4.out.step hb5)
  have hk5 := H5.out.kc
  clear hb5 hk4 H4
  go_wp2_with fail
  refine (H5.out.dlay line fr).mono ?_
  rintro e w6 ⟨⟨i6, rfl⟩, ho⟩
  have H6 := Lib.hid ho
  have hk6 := H6.out.kc
  clear ho hk5 H5
  go_wp2_with fail
  refine (H6.out.dlock line true).mono ?_
  rintro e w7 ⟨⟨i7, rfl⟩, ho⟩
  have H7 := Lib.hid ho
  have hk7 := H7.out.kc
  clear ho hk6 H6
  go_wp2_with fail
  refine (H7.out.dopen line kind).mono ?_
  rintro e w8 ⟨⟨i8, rfl⟩, ho⟩
  have H8 := Lib.hid ho
  clear ho hk7 H7
  go_upto_region 17 with fail
  refine wp_region_noPanic ?_
  refine wp_region_held_drew (S := (fun w' : World => (∀ o, w'.cell? ⟨K.k, o, none⟩ = (kcells c core K)[o]?))) (by kernel_rfl) H8.out.kc (fun hh0 => ?_)
  replace H8 := Lib.hid H8.out.drew
  generalize World.drew w8 = w8 at *
  refine tk 15 0 ⟨some 118, _, _, _, _, _⟩ (.int .i64 kind) rfl (by kernel_rfl) (by rfl) hh0 ?_ ?_
  ·intro w' _
   go_simp
  simp only [Act.put, setIfInBounds_toArray, set_cons_zero, set_cons_succ]
  refine tk 14 1 ⟨some 119, _, _, _, _, _⟩ (.int .i64 line) rfl (by kernel_rfl) (by rfl) hh0 ?_ ?_
  ·intro w' _
   go_simp
  simp only [Act.put, setIfInBounds_toArray, set_cons_zero, set_cons_succ]
  refine tk 13 2 ⟨some 120, _, _, _, _, _⟩ (ptr K.k) rfl (by kernel_rfl) (by rfl) hh0 ?_ ?_
  ·intro w' _
   go_simp
  simp only [Act.put, setIfInBounds_toArray, set_cons_zero, set_cons_succ]
  refine tk 12 3 ⟨some 121, _, _, _, _, _⟩ (ptr K.k) rfl (by kernel_rfl) (by rfl) hh0 ?_ ?_
  ·intro w' _
   go_simp
  simp only [Act.put, setIfInBounds_toArray, set_cons_zero, set_cons_succ]
  refine tk 11 4 ⟨some 122, _, _, _, _, _⟩ (.pointer (some ⟨K.k, 13, none⟩)) rfl (by kernel_rfl) (by rfl) hh0 ?_ ?_
  ·intro w' _
   go_simp
  simp only [Act.put, setIfInBounds_toArray, set_cons_zero, set_cons_succ]
  refine tk 10 5 ⟨some 123, _, _, _, _, _⟩ (.int .i64 core) rfl (by kernel_rfl) (by rfl) hh0 ?_ ?_
  ·rintro w' c0
   go_simp
  simp only [Act.put, setIfInBounds_toArray, set_cons_zero, set_cons_succ]
  refine tk 9 6 ⟨some 124, _, _, _, _, _⟩ (.int .i64 line) rfl (by kernel_rfl) (by rfl) hh0 ?_ ?_
  ·intro w' _
   go_simp
  simp only [Act.put, setIfInBounds_toArray, set_cons_zero, set_cons_succ]
  refine tk 8 7 ⟨some 125, _, _, _, _, _⟩ (ptr K.k) rfl (by kernel_rfl) (by rfl) hh0 ?_ ?_
  ·intro w' _
   go_simp
  simp only [Act.put, setIfInBounds_toArray, set_cons_zero, set_cons_succ]
  refine tk 7 8 ⟨some 126, _, _, _, _, _⟩ (ptr K.k) rfl (by kernel_rfl) (by rfl) hh0 ?_ ?_
  ·intro w' _
   go_simp
  simp only [Act.put, setIfInBounds_toArray, set_cons_zero, set_cons_succ]
  refine tk 6 9 ⟨some 127, _, _, _, _, _⟩ (ptr K.k) rfl (by kernel_rfl) (by rfl) hh0 ?_ ?_
  ·intro w' _
   go_simp
  simp only [Act.put, setIfInBounds_toArray, set_cons_zero, set_cons_succ]
  refine tk 5 10 ⟨some 128, _, _, _, _, _⟩ (.pointer (some ⟨K.k, 1, none⟩)) rfl (by kernel_rfl) (by rfl) hh0 ?_ ?_
  ·intro w' _
   go_simp
  simp only [Act.put, setIfInBounds_toArray, set_cons_zero, set_cons_succ]
  refine tk 4 11 ⟨some 129, _, _, _, _, _⟩ (.int .i64 c.ho) rfl (by kernel_rfl) (by rfl) hh0 ?_ ?_
  ·rintro w' c0
   go_simp
  simp only [Act.put, setIfInBounds_toArray, set_cons_zero, set_cons_succ]
  refine tk 3 12 ⟨some 130, _, _, _, _, _⟩ (.int .i64 (line % c.ho)) rfl (by kernel_rfl) (by rfl) hh0 ?_ ?_
  ·intro w' _
   go_simp
  simp only [Act.put, setIfInBounds_toArray, set_cons_zero, set_cons_succ]
  refine tk 2 13 ⟨some 131, _, _, _, _, _⟩ (.agg (#[.int .i64 kind, .int .i64 line, .int .i64 core, .int .i64 (line % c.ho), .int .i64 0, .int .i64 0, .int .i64 0, .int .i64 0, .int .i64 0, .int .i64 0, .int .i64 0, .int .i64 0, .int .i64 0, .int .i64 0, .int .i64 0])) rfl (by kernel_rfl) (by rfl) hh0 ?_ ?_
  ·intro w' _
   go_simp
  simp only [Act.put, setIfInBounds_toArray, set_cons_zero, set_cons_succ]
  refine rd 1 14 ⟨none, _, _, _, _, _⟩ rfl (by kernel_rfl) (fun P hP => ?_)
  rw [if_pos (by rfl)]
  refine wp_store_row 38 (.tmp 6) (.tmp 131) rfl (w.heap.size) (#[.int .i64 kind, .int .i64 line, .int .i64 core, .int .i64 (line % c.ho), .int .i64 0, .int .i64 0, .int .i64 0, .int .i64 0, .int .i64 0, .int .i64 0, .int .i64 0, .int .i64 0, .int .i64 0, .int .i64 0, .int .i64 0]) rfl rfl 38 (#[.int .i64 0, .int .i64 0, .int .i64 0, .int .i64 0, .int .i64 0, .int .i64 0, .int .i64 0, .int .i64 0, .int .i64 0, .int .i64 0, .int .i64 0, .int .i64 0, .int .i64 0, .int .i64 0, .int .i64 0]) (H8.out.box mz3) (by kernel_rfl) rfl (by kernel_rfl) ?_
  have H8s := Lib.hid (H8.out.setRow3 (cs' := #[.int .i64 kind, .int .i64 line, .int .i64 core, .int .i64 (line % c.ho), .int .i64 0, .int .i64 0, .int .i64 0, .int .i64 0, .int .i64 0, .int .i64 0, .int .i64 0, .int .i64 0, .int .i64 0, .int .i64 0, .int .i64 0]))
  refine hP.out _ _ (H8s.out.kc) (fun hh1 => ?_)
  clear hP P hh0
  simp only [Act.put]
  refine tk 0 15 ⟨some 7, _, _, _, _, _⟩ (.int .i64 0) rfl (by kernel_rfl) (by rfl) hh1 ?_ ?_
  ·intro w' _
   go_simp
  simp only [Act.put, setIfInBounds_toArray, set_cons_zero, set_cons_succ]
  refine wpAnyH_done (by kernel_rfl) ?_ _
  refine NoPanic.normal ?_
  clear hh1
  go_wp2
  exact dask_ret (m := ⟨kind, line, core, line % c.ho, 0, 0, 0, 0, 0, 0, 0, 0, 0, 0, 0⟩) rfl rfl rfl (H8s.out.box mz3) H8s.out.drop.drop.drop.drop

end Go.Proofs.YtlfhkjjjocmpbaaGreatDoor.Cc

namespace Go.Proofs.YtlfhkjjjocmpbaaGreatDoor.Cc
open Go Go.RowKit
open List (setIfInBounds_toArray set_cons_zero set_cons_succ)

variable {w0 w w' : World} {bx : Bx} {K : Kb} {c : Cfg} {core n : Int} {s : St}
theorem can_lets {y : Ar.Wy} {kind : Int} (hk : kind = 1 ∨ kind = 2) : canB y kind = letsB y (kind == 2) := by
 rcases hk with rfl | rfl <;> simp [canB, letsB]
theorem wget_oi (B : List Wb.En) (line : Int) : (Wb.getP B line).2 = decide (0 ≤ Wb.oi (Wb.fnd B line)) := by
 rcases hf : Wb.fnd B line with _ | i
 ·simp [Wb.getP, hf, Wb.oi]
 ·obtain ⟨x, hx, _⟩ := Wb.fnd_some hf
  simp [Wb.getP, hf, hx, Wb.oi]
theorem toHome_eq {kind line : Int} (hok : okC c = true) (hl : 0 ≤ line ∧ line < c.li) : toHomeP c core kind line = ⟨kind, line, core, line % c.ho, 0, 0, 0, 0, 0, 0, 0, 0, 0, 0, 0⟩ := by
 have h1 : lnOk c line = true := by simp [lnOk, hok, inR, hl.1, hl.2]
 simp [toHomeP, msg, lnH, h1, d0]

theorem Own.dask (h : OwnD w0 K c core n s bx w) (line kind : Int) :
  Calls Tryz.prog 36 #[ptr K.k, .int .i64 line, .int .i64 kind] w (RetA (askP c core s line kind).1.1 (askP c core s line kind).1.2 (OwnD w0 K c core (n + 1) (askP c core s line kind).2 bx)) := by
 have hok := h.nums.1
 by_cases hr : line < 0 ∨ c.li ≤ line ∨ (kind ≠ 1 ∧ kind ≠ 2)
 ·have e : refP c s line kind = 1 := by
   have : (lnE c line != 0 || (kind != 1 && kind != 2)) = true := by
    rcases hr with a | a | a
    ·have : lnOk c line = false := by simp [lnOk, inR]; omega
     simp [lnE, this]
    ·have : lnOk c line = false := by simp [lnOk, inR]; omega
     simp [lnE, this]
    ·simp [a.1, a.2]
   simp [refP, this]
  have e2 : askP c core s line kind = ((m0, 1), s) := by unfold askP; rw [if_pos (by omega), e]
  rw [e2]
  exact (dask_arg h line kind hr).mono fun e w' ⟨q1, q2⟩ => ⟨q1, q2.more (by omega)⟩
 ·have hl : 0 ≤ line ∧ line < c.li := by omega
  have hk : kind = 1 ∨ kind = 2 := by omega
  have hkd : (kind != 1) = false ∨ (kind != 1) = true ∧ (kind != 2) = false := by rcases hk with rfl | rfl <;> simp
  have hln : lnOk c line = true := by simp [lnOk, hok, inR, hl.1, hl.2]
  have hb1 : ¬ (lnE c line != 0 || (kind != 1 && kind != 2)) = true := by
   rcases hk with rfl | rfl <;> simp [lnE, hln]
  have hcl := can_lets (y := Go.Proofs.YtlfhkjjjocmpbaaGreatDoor.Cc.look c s line) hk
  rcases hg : Mh.getP s.F line with ⟨gx, gq⟩
  have hbz : busyB s line = (gq || decide (0 ≤ Wb.oi (Wb.fnd s.B line))) := by unfold busyB; rw [hg, wget_oi]
  by_cases h6 : (busyB s line || letsB (Go.Proofs.YtlfhkjjjocmpbaaGreatDoor.Cc.look c s line) (kind == 2)) = true
  ·have e : refP c s line kind = 6 := by unfold refP; rw [if_neg hb1, if_pos h6]
   have e2 : askP c core s line kind = ((m0, 6), s) := by unfold askP; rw [if_pos (by omega), e]
   rw [e2]
   have fin : Calls Tryz.prog 36 #[ptr K.k, .int .i64 line, .int .i64 kind] w (RetA m0 6 (OwnD w0 K c core n s bx)) := by
    rcases gq with _ | _
    ·by_cases hp : 0 ≤ Wb.oi (Wb.fnd s.B line)
     ·exact dask_put h line kind hl hkd hg rfl hp
     ·refine dask_can h line kind hl hkd hg rfl ?_ hp
      rw [hcl]
      simpa [hbz, hp] using h6
    ·exact dask_miss h line kind hl hkd hg
   exact fin.mono fun e w' ⟨q1, q2⟩ => ⟨q1, q2.more (by omega)⟩
  ·have h6' : gq = false ∧ ¬ 0 ≤ Wb.oi (Wb.fnd s.B line) ∧ letsB (Go.Proofs.YtlfhkjjjocmpbaaGreatDoor.Cc.look c s line) (kind == 2) = false := by
    rw [hbz] at h6
    simpa [and_assoc] using h6
   obtain ⟨rfl, hp, hlt⟩ := h6'
   rw [← hcl] at hlt
   have hlen := h.nums.2.2.2.2.1.len
   by_cases hf : (s.F.length : Int) = c.ms
   ·have e : refP c s line kind = 4 := by unfold refP; rw [if_neg hb1, if_neg h6, if_pos hf]
    have e2 : askP c core s line kind = ((m0, 4), s) := by unfold askP; rw [if_pos (by omega), e]
    rw [e2]
    exact (dask_full h line kind hl hkd hg rfl hlt hp (by omega)).mono fun e w' ⟨q1, q2⟩ => ⟨q1, q2.more (by omega)⟩
   ·have hf' : ¬ c.ms ≤ (s.F.length : Int) := by omega
    rcases Bool.eq_false_or_eq_true (Go.Proofs.YtlfhkjjjocmpbaaGreatDoor.Cc.there c s line) with ht | ht
    ·have e : refP c s line kind = 0 := by unfold refP; rw [if_neg hb1, if_neg h6, if_neg hf, if_neg (by simp [ht])]
     have e2 : askP c core s line kind = ((toHomeP c core kind line, 0), ⟨(Ar.lockP c s.A line true).2, (Mh.openP c.ms s.F line kind).2, s.B⟩) := by unfold askP layA; rw [if_neg (by omega), if_pos ht]
     rw [e2, toHome_eq hok hl]
     exact dask_there h line kind hl hkd hg rfl hlt hp hf' ht
    ·by_cases hfr : Ar.oi (Ar.fre c s.A line) < 0
     ·have e : refP c s line kind = 5 := by unfold refP; rw [if_neg hb1, if_neg h6, if_neg hf, if_pos (by simp [ht, hfr])]
      have e2 : askP c core s line kind = ((m0, 5), s) := by unfold askP; rw [if_pos (by omega), e]
      rw [e2]
      exact (dask_noway h line kind hl hkd hg rfl hlt hp hf' ht hfr).mono fun e w' ⟨q1, q2⟩ => ⟨q1, q2.more (by omega)⟩
     ·have e : refP c s line kind = 0 := by unfold refP; rw [if_neg hb1, if_neg h6, if_neg hf, if_neg (by simp [hfr])]
      have e2 : askP c core s line kind = ((toHomeP c core kind line, 0), ⟨(Ar.lockP c (Ar.layP c s.A line (Ar.oi (Ar.fre c s.A line))).2 line true).2, (Mh.openP c.ms s.F line kind).2, s.B⟩) := by unfold askP layA; rw [if_neg (by omega), if_neg (by simp [ht])]
      rw [e2, toHome_eq hok hl]
      exact dask_lay h line kind hl hkd hg rfl hlt hp hf' ht (by omega)
set_option maxHeartbeats 1000000 in
theorem dfin_no (h : OwnD w0 K c core n s bx w) (hq : (Mh.owingP s.F).2 = false) :
  Calls Tryz.prog 39 #[ptr K.k] w (RetB m0 false (OwnD w0 K c core n s bx)) := by
 have H0 := Lib.hid (h.add (.cells #[.int .i64 0, .int .i64 0, .int .i64 0, .int .i64 0, .int .i64 0, .int .i64 0, .int .i64 0, .int .i64 0, .int .i64 0, .int .i64 0, .int .i64 0, .int .i64 0, .int .i64 0, .int .i64 0, .int .i64 0] 38))
 have HW := Lib.hid H0.out.dowing
 rw [hq] at HW
 generalize (Mh.owingP s.F).1 = line at *
 have hk := H0.out.kc
 have h6 := H0.out.box mz0
 clear h hq
 go_enter Tryz.func39, Tryz.ntmps39
 go_wp2_with fail
 refine HW.out.mono ?_
 rintro e w1 ⟨rfl, rfl⟩
 go_wp2_with ((with_reducible refine wpList_store_row (o := ⟨none, _, _, _, _, _⟩) rfl 38 (.tmp 2) (.tmp 16) rfl (w.heap.size) (#[.int .i64 0, .int .i64 0, .int .i64 0, .int .i64 0, .int .i64 0, .int .i64 0, .int .i64 0, .int .i64 0, .int .i64 0, .int .i64 0, .int .i64 0, .int .i64 0, .int .i64 0, .int .i64 0, .int .i64 0]) ?sx ?sy 38 ?old ?sg ?si ?so ?s1 ?_); (case sx => rfl); (case sy => rfl); (case old => exact #[.int .i64 0, .int .i64 0, .int .i64 0, .int .i64 0, .int .i64 0, .int .i64 0, .int .i64 0, .int .i64 0, .int .i64 0, .int .i64 0, .int .i64 0, .int .i64 0, .int .i64 0, .int .i64 0, .int .i64 0]); (case sg => exact h6); (case si => kernel_rfl); (case so => rfl); (case s1 => kernel_rfl))
 exact dfin_ret rfl rfl rfl (setRow_heap _ _ _ _ _ _ h6) H0.out.setRow.drop
set_option maxRecDepth 100000 in
set_option maxHeartbeats 2000000 in
theorem dfin_yes (h : OwnD w0 K c core n s bx w) {line : Int} (hl : 0 ≤ line ∧ line < c.li) (hq : Mh.owingP s.F = (line, true)) :
  Calls Tryz.prog 39 #[ptr K.k] w (RetB ⟨11, line, core, line % c.ho, 0, 0, 0, 0, 0, 0, 0, 0, 0, 0, 0⟩ true (OwnD w0 K c core (n + 1) ⟨(Ar.lockP c s.A line false).2, (Mh.closeP s.F line).2, s.B⟩ bx)) := by
 have H0 := Lib.hid (h.add (.cells #[.int .i64 0, .int .i64 0, .int .i64 0, .int .i64 0, .int .i64 0, .int .i64 0, .int .i64 0, .int .i64 0, .int .i64 0, .int .i64 0, .int .i64 0, .int .i64 0, .int .i64 0, .int .i64 0, .int .i64 0] 38))
 have HW := Lib.hid H0.out.dowing
 rw [hq] at HW
 obtain ⟨hh1, hh2⟩ := (ok_pows c h.nums.1).2.1.2
 have gho : ¬ c.ho = 0 := by omega
 have gmd : (line.tmod c.ho) = line % c.ho := Int.tmod_eq_emod_of_nonneg hl.1
 have hk := H0.out.kc
 clear h hq
 go_enter Tryz.func39, Tryz.ntmps39
 go_wp2_with fail
 refine HW.out.mono ?_
 rintro e w1 ⟨rfl, rfl⟩
 go_wp2_with fail
 refine (H0.out.dclose line).mono ?_
 rintro e w2 ⟨⟨i2, rfl⟩, ho⟩
 have H2 := Lib.hid ho
 have hk2 := H2.out.kc
 clear ho hk H0 HW
 go_wp2_with fail
 refine (H2.out.dlock line false).mono ?_
 rintro e w3 ⟨⟨i3, rfl⟩, ho⟩
 have H3 := Lib.hid ho
 clear ho hk2 H2
 go_upto_region 6 with fail
 refine wp_region_noPanic ?_
 refine wp_region_held_drew (S := (fun w' : World => (∀ o, w'.cell? ⟨K.k, o, none⟩ = (kcells c core K)[o]?))) (by kernel_rfl) H3.out.kc (fun hh0 => ?_)
 replace H3 := Lib.hid H3.out.drew
 generalize World.drew w3 = w3 at *
 refine tk 14 0 ⟨some 29, _, _, _, _, _⟩ (.int .i64 line) rfl (by kernel_rfl) (by rfl) hh0 ?_ ?_
 ·intro w' _
  go_simp
 simp only [Act.put, setIfInBounds_toArray, set_cons_zero, set_cons_succ]
 refine tk 13 1 ⟨some 30, _, _, _, _, _⟩ (ptr K.k) rfl (by kernel_rfl) (by rfl) hh0 ?_ ?_
 ·intro w' _
  go_simp
 simp only [Act.put, setIfInBounds_toArray, set_cons_zero, set_cons_succ]
 refine tk 12 2 ⟨some 31, _, _, _, _, _⟩ (ptr K.k) rfl (by kernel_rfl) (by rfl) hh0 ?_ ?_
 ·intro w' _
  go_simp
 simp only [Act.put, setIfInBounds_toArray, set_cons_zero, set_cons_succ]
 refine tk 11 3 ⟨some 32, _, _, _, _, _⟩ (.pointer (some ⟨K.k, 13, none⟩)) rfl (by kernel_rfl) (by rfl) hh0 ?_ ?_
 ·intro w' _
  go_simp
 simp only [Act.put, setIfInBounds_toArray, set_cons_zero, set_cons_succ]
 refine tk 10 4 ⟨some 33, _, _, _, _, _⟩ (.int .i64 core) rfl (by kernel_rfl) (by rfl) hh0 ?_ ?_
 ·rintro w' c0
  go_simp
 simp only [Act.put, setIfInBounds_toArray, set_cons_zero, set_cons_succ]
 refine tk 9 5 ⟨some 34, _, _, _, _, _⟩ (.int .i64 line) rfl (by kernel_rfl) (by rfl) hh0 ?_ ?_
 ·intro w' _
  go_simp
 simp only [Act.put, setIfInBounds_toArray, set_cons_zero, set_cons_succ]
 refine tk 8 6 ⟨some 35, _, _, _, _, _⟩ (ptr K.k) rfl (by kernel_rfl) (by rfl) hh0 ?_ ?_
 ·intro w' _
  go_simp
 simp only [Act.put, setIfInBounds_toArray, set_cons_zero, set_cons_succ]
 refine tk 7 7 ⟨some 36, _, _, _, _, _⟩ (ptr K.k) rfl (by kernel_rfl) (by rfl) hh0 ?_ ?_
 ·intro w' _
  go_simp
 simp only [Act.put, setIfInBounds_toArray, set_cons_zero, set_cons_succ]
 refine tk 6 8 ⟨some 37, _, _, _, _, _⟩ (ptr K.k) rfl (by kernel_rfl) (by rfl) hh0 ?_ ?_
 ·intro w' _
  go_simp
 simp only [Act.put, setIfInBounds_toArray, set_cons_zero, set_cons_succ]
 refine tk 5 9 ⟨some 38, _, _, _, _, _⟩ (.pointer (some ⟨K.k, 1, none⟩)) rfl (by kernel_rfl) (by rfl) hh0 ?_ ?_
 ·intro w' _
  go_simp
 simp only [Act.put, setIfInBounds_toArray, set_cons_zero, set_cons_succ]
 refine tk 4 10 ⟨some 39, _, _, _, _, _⟩ (.int .i64 c.ho) rfl (by kernel_rfl) (by rfl) hh0 ?_ ?_
 ·rintro w' c0
  go_simp
 simp only [Act.put, setIfInBounds_toArray, set_cons_zero, set_cons_succ]
 refine tk 3 11 ⟨some 40, _, _, _, _, _⟩ (.int .i64 (line % c.ho)) rfl (by kernel_rfl) (by rfl) hh0 ?_ ?_
 ·intro w' _
  go_simp
 simp only [Act.put, setIfInBounds_toArray, set_cons_zero, set_cons_succ]
 refine tk 2 12 ⟨some 41, _, _, _, _, _⟩ (.agg (#[.int .i64 11, .int .i64 line, .int .i64 core, .int .i64 (line % c.ho), .int .i64 0, .int .i64 0, .int .i64 0, .int .i64 0, .int .i64 0, .int .i64 0, .int .i64 0, .int .i64 0, .int .i64 0, .int .i64 0, .int .i64 0])) rfl (by kernel_rfl) (by rfl) hh0 ?_ ?_
 ·intro w' _
  go_simp
 simp only [Act.put, setIfInBounds_toArray, set_cons_zero, set_cons_succ]
 refine rd 1 13 ⟨none, _, _, _, _, _⟩ rfl (by kernel_rfl) (fun P hP => ?_)
 rw [if_pos (by rfl)]
 refine wp_store_row 38 (.tmp 2) (.tmp 41) rfl (w.heap.size) (#[.int .i64 11, .int .i64 line, .int .i64 core, .int .i64 (line % c.ho), .int .i64 0, .int .i64 0, .int .i64 0, .int .i64 0, .int .i64 0, .int .i64 0, .int .i64 0, .int .i64 0, .int .i64 0, .int .i64 0, .int .i64 0]) rfl rfl 38 (#[.int .i64 0, .int .i64 0, .int .i64 0, .int .i64 0, .int .i64 0, .int .i64 0, .int .i64 0, .int .i64 0, .int .i64 0, .int .i64 0, .int .i64 0, .int .i64 0, .int .i64 0, .int .i64 0, .int .i64 0]) (H3.out.box mz0) (by kernel_rfl) rfl (by kernel_rfl) ?_
 have H3s := Lib.hid (H3.out.setRow (cs' := #[.int .i64 11, .int .i64 line, .int .i64 core, .int .i64 (line % c.ho), .int .i64 0, .int .i64 0, .int .i64 0, .int .i64 0, .int .i64 0, .int .i64 0, .int .i64 0, .int .i64 0, .int .i64 0, .int .i64 0, .int .i64 0]))
 refine hP.out _ _ (H3s.out.kc) (fun hh1 => ?_)
 clear hP P hh0
 simp only [Act.put]
 refine tk 0 14 ⟨some 3, _, _, _, _, _⟩ (.bool true) rfl (by kernel_rfl) (by rfl) hh1 ?_ ?_
 ·intro w' _
  go_simp
 simp only [Act.put, setIfInBounds_toArray, set_cons_zero, set_cons_succ]
 refine wpAnyH_done (by kernel_rfl) ?_ _
 refine NoPanic.normal ?_
 clear hh1
 go_wp2
 exact dfin_ret (m := ⟨11, line, core, line % c.ho, 0, 0, 0, 0, 0, 0, 0, 0, 0, 0, 0⟩) rfl rfl rfl (H3s.out.box mz0) H3s.out.drop

theorem Own.dfinish (h : OwnD w0 K c core n s bx w) (hi : Inv c s) :
  Calls Tryz.prog 39 #[ptr K.k] w (RetB (finishP c core s).1.1 (finishP c core s).1.2 (OwnD w0 K c core (n + 1) (finishP c core s).2 bx)) := by
 have hok := h.nums.1
 rcases hq : Mh.owingP s.F with ⟨line, q⟩
 unfold finishP
 rw [hq]
 rcases q with _ | _
 ·rw [if_neg (by simp)]
  exact (dfin_no h (by rw [hq])).mono fun e w' ⟨q1, q2⟩ => ⟨q1, q2.more (by omega)⟩
 ·rw [if_pos rfl]
  obtain ⟨i, x, hx, _, e⟩ := owing_some (by rw [hq])
  rw [hq] at e
  have hl := hi.line_of (List.mem_of_getElem? hx)
  rw [← show line = x.ln from e] at hl
  show Calls _ _ _ _ (RetB (toHomeP c core 11 line) true _)
  rw [toHome_eq hok hl]
  exact dfin_yes h hl hq

end Go.Proofs.YtlfhkjjjocmpbaaGreatDoor.Cc
