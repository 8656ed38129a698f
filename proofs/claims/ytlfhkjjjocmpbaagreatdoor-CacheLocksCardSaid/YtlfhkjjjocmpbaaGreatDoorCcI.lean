/-
  What Do of a cache does.
-/
import Derived.Test.YtlfhkjjjocmpbaaGreatDoorCcF
namespace Go.Proofs.YtlfhkjjjocmpbaaGreatDoor.Cc
open Go Go.RowKit

variable {w0 w w' : World} {bx : Bx} {K : Kb} {c : Cfg} {core n : Int} {s : St}
set_option maxRecDepth 100000 in
set_option maxHeartbeats 4000000 in
theorem do_err (h : OwnP w0 K c core n s bx w) (xk xa xv : Int) {d : Wd} {nn er : Int} (hap : Me.apP c (look c s (adL c xa)).wd ⟨xk, xa, xv⟩ = (d, nn, er)) (e1 : (er != 0) = true) :
    Calls Tryz.prog 20 #[ptr K.k, Pg.ov ⟨xk, xa, xv⟩] w fun e w' => e = .returned (.tuple #[.int .i64 0, .int .i64 er]) ∧ OwnP w0 K c core n s bx w' := by
  have H0 := Lib.hid (h.add (.cells #[.int .i64 xk, .int .i64 xa, .int .i64 xv] 43))
  have HAd := Lib.hid (fun w1 bx (h : OwnP w0 K c core n s bx w1) => h.addr xa)
  have HLk := Lib.hid (fun w1 bx (h : OwnP w0 K c core n s bx w1) => h.look (adL c xa))
  have HP := Lib.hid (fun w1 bx (h : OwnP w0 K c core n s bx w1) => h.apply (look c s (adL c xa)).wd ⟨xk, xa, xv⟩)
  rw [hap] at HP
  have hk := H0.out.kc
  have hx := H0.out.cells (List.mem_cons_self ..)
  clear h hap
  generalize look c s (adL c xa) = y at *
  generalize there c s (adL c xa) = q at *
  generalize adL c xa = line at *
  generalize adW c xa = word at *
  generalize adE c xa = ae at *
  go_enter Tryz.func20, Tryz.ntmps20
  go_wp2_with fail
  go_region_held3 (fun w' => (∀ o, w'.cell? ⟨K.k, o, none⟩ = (kcells c core K)[o]?) ∧ (∀ o, w'.cell? ⟨w.heap.size, o, none⟩ = (#[Value.int .i64 xk, .int .i64 xa, .int .i64 xv])[o]?))
    (first | exact ⟨H1.out.kc, H1.out.cells (List.mem_cons_self ..)⟩ | exact ⟨hk, hx⟩ | go_keep)
    (first
      | (go_at_call 19; refine (HAd.out _ _ (by first | exact H0.out | exact H0.out.drew)).mono ?_; rintro e w1 ⟨rfl, hb1⟩; have H1 := (by first | exact Lib.hid (H0.out.step hb1) | exact Lib.hid (H0.out.drew.step hb1)); clear hb1))
  clear hk hx
  go_wp2_with fail
  refine (HLk.out _ _ H1.out).mono ?_
  rintro e w2 ⟨rfl, hb2⟩
  have H3 := Lib.hid ((H1.out.step hb2).add (.cells (Ar.ycells y) 66))
  clear hb2 H1
  go_wp2_with fail
  obtain ⟨w3, hw3⟩ : ∃ w3, w3 = w2.alloc (.cells (Ar.ycells y) 66) := ⟨_, rfl⟩
  rw [← hw3] at H3
  change Code.wp _ _ _ _ (w2.alloc (.cells (Ar.ycells y) 66))
  rw [← hw3]
  clear hw3
  refine wp_region_noPanic ?_
  refine wp_region_held_drew (S := (fun w' : World => (∀ o, w'.cell? ⟨K.k, o, none⟩ = (kcells c core K)[o]?) ∧ (∀ o, w'.cell? ⟨w2.heap.size, o, none⟩ = (Ar.ycells y)[o]?) ∧ (∀ o, w'.cell? ⟨w.heap.size, o, none⟩ = (#[Value.int .i64 xk, .int .i64 xa, .int .i64 xv])[o]?))) (by kernel_rfl) ⟨H3.out.kc, H3.out.cells (List.mem_cons_self ..), H3.out.cells (List.mem_cons_of_mem _ (List.mem_cons_self ..))⟩ (fun hh => ?_)
  replace H3 := Lib.hid H3.out.drew
  generalize World.drew w3 = w3 at *
  refine wpAnyH_take (fuel := 15) (i := 0) (oi := ⟨some 33, _, _, _, _, _⟩) (v := ptr K.k) rfl (by kernel_rfl) (by kernel_rfl) (by kernel_rfl) (fun _ _ _ h => h) (Or.inl ⟨by rfl, ?_⟩) hh ?_
  · intro w' _
    go_simp
  simp only [Act.put, List.setIfInBounds_toArray, List.set_cons_zero, List.set_cons_succ]
  refine wpAnyH_take (fuel := 14) (i := 1) (oi := ⟨some 34, _, _, _, _, _⟩) (v := ptr K.k) rfl (by kernel_rfl) (by kernel_rfl) (by kernel_rfl) (fun _ _ _ h => h) (Or.inl ⟨by rfl, ?_⟩) hh ?_
  · intro w' _
    go_simp
  simp only [Act.put, List.setIfInBounds_toArray, List.set_cons_zero, List.set_cons_succ]
  refine wpAnyH_take (fuel := 13) (i := 2) (oi := ⟨some 35, _, _, _, _, _⟩) (v := ptr K.k) rfl (by kernel_rfl) (by kernel_rfl) (by kernel_rfl) (fun _ _ _ h => h) (Or.inl ⟨by rfl, ?_⟩) hh ?_
  · intro w' _
    go_simp
  simp only [Act.put, List.setIfInBounds_toArray, List.set_cons_zero, List.set_cons_succ]
  refine wpAnyH_take (fuel := 12) (i := 3) (oi := ⟨some 36, _, _, _, _, _⟩) (v := cv c) rfl (by kernel_rfl) (by kernel_rfl) (by kernel_rfl) (fun _ _ _ h => h) (Or.inl ⟨by rfl, ?_⟩) hh ?_
  · rintro w' ⟨c0, -, -⟩
    go_simp
  simp only [Act.put, List.setIfInBounds_toArray, List.set_cons_zero, List.set_cons_succ]
  refine wpAnyH_take (fuel := 11) (i := 4) (oi := ⟨some 37, _, _, _, _, _⟩) (v := .pointer (some ⟨w2.heap.size, 2, none⟩)) rfl (by kernel_rfl) (by kernel_rfl) (by kernel_rfl) (fun _ _ _ h => h) (Or.inl ⟨by rfl, ?_⟩) hh ?_
  · intro w' _
    go_simp
  simp only [Act.put, List.setIfInBounds_toArray, List.set_cons_zero, List.set_cons_succ]
  refine wpAnyH_take (fuel := 10) (i := 5) (oi := ⟨some 38, _, _, _, _, _⟩) (v := .agg (dcells y.wd)) rfl (by kernel_rfl) (by kernel_rfl) (by kernel_rfl) (fun _ _ _ h => h) (Or.inl ⟨by rfl, ?_⟩) hh ?_
  · rintro w' ⟨-, c0, -⟩
    go_simp
  simp only [Act.put, List.setIfInBounds_toArray, List.set_cons_zero, List.set_cons_succ]
  refine wpAnyH_take (fuel := 9) (i := 6) (oi := ⟨some 39, _, _, _, _, _⟩) (v := .agg #[.int .i64 xk, .int .i64 xa, .int .i64 xv]) rfl (by kernel_rfl) (by kernel_rfl) (by kernel_rfl) (fun _ _ _ h => h) (Or.inl ⟨by rfl, ?_⟩) hh ?_
  · rintro w' ⟨-, -, c0⟩
    go_simp
  simp only [Act.put, List.setIfInBounds_toArray, List.set_cons_zero, List.set_cons_succ]
  refine wpAnyH_ready (fuel := 8) (rs := [7, 12]) (by kernel_rfl) (by simp) ?_
  refine AllReadyH.cons (o := ⟨some 40, _, _, _, _, _⟩) rfl (fun P hP => ?_) (AllReadyH.cons (o := ⟨some 11, _, _, _, _, _⟩) rfl (fun P hP => ?_) AllReadyH.nil)
  · go_simp
    refine (HP.out _ _ H3.out).mono ?_
    rintro e w4 ⟨rfl, hb4⟩
    have H4 := Lib.hid (H3.out.step hb4)
    show P _ _
    refine hP.out _ _ (⟨H4.out.kc, H4.out.cells (List.mem_cons_self ..), H4.out.cells (List.mem_cons_of_mem _ (List.mem_cons_self ..))⟩) (fun hh2 => ?_)
    clear hP P hh hb4
    refine wpAnyH_take (fuel := 7) (i := 8) (oi := ⟨some 32, _, _, _, _, _⟩) (v := .tuple #[.agg (dcells d), .int .i64 nn, .int .i64 er]) rfl (by kernel_rfl) (by kernel_rfl) (by kernel_rfl) (fun _ _ _ h => h) (Or.inl ⟨by rfl, ?_⟩) hh2 ?_
    · intro w' _
      go_simp
    simp only [Act.put, List.setIfInBounds_toArray, List.set_cons_zero, List.set_cons_succ]
    refine wpAnyH_take (fuel := 6) (i := 9) (oi := ⟨some 41, _, _, _, _, _⟩) (v := .agg (dcells d)) rfl (by kernel_rfl) (by kernel_rfl) (by kernel_rfl) (fun _ _ _ h => h) (Or.inl ⟨by rfl, ?_⟩) hh2 ?_
    · intro w' _
      go_simp
    simp only [Act.put, List.setIfInBounds_toArray, List.set_cons_zero, List.set_cons_succ]
    refine wpAnyH_take (fuel := 5) (i := 10) (oi := ⟨some 42, _, _, _, _, _⟩) (v := .int .i64 nn) rfl (by kernel_rfl) (by kernel_rfl) (by kernel_rfl) (fun _ _ _ h => h) (Or.inl ⟨by rfl, ?_⟩) hh2 ?_
    · intro w' _
      go_simp
    simp only [Act.put, List.setIfInBounds_toArray, List.set_cons_zero, List.set_cons_succ]
    refine wpAnyH_take (fuel := 4) (i := 11) (oi := ⟨some 43, _, _, _, _, _⟩) (v := .int .i64 er) rfl (by kernel_rfl) (by kernel_rfl) (by kernel_rfl) (fun _ _ _ h => h) (Or.inl ⟨by rfl, ?_⟩) hh2 ?_
    · intro w' _
      go_simp
    simp only [Act.put, List.setIfInBounds_toArray, List.set_cons_zero, List.set_cons_succ]
    refine wpAnyH_ready (fuel := 3) (rs := [12]) (by kernel_rfl) (by simp) ?_
    refine AllReadyH.cons (o := ⟨some 11, _, _, _, _, _⟩) rfl (fun P hP => ?_) AllReadyH.nil
    go_simp
    have H5 := Lib.hid (H4.out.add (.cells #[.int .i64 0, .int .i64 0, .int .i64 0, .int .i64 0, .int .i64 0, .int .i64 0, .int .i64 0, .int .i64 0] 36))
    show P _ _
    refine hP.out _ _ (⟨H5.out.kc, H5.out.cells (List.mem_cons_of_mem _ (List.mem_cons_self ..)), H5.out.cells (List.mem_cons_of_mem _ (List.mem_cons_of_mem _ (List.mem_cons_self ..)))⟩) (fun hh3 => ?_)
    clear hP P hh2
    refine wpAnyH_ready (fuel := 2) (rs := [13]) (by kernel_rfl) (by simp) ?_
    refine AllReadyH.cons (o := ⟨none, _, _, _, _, _⟩) rfl (fun P hP => ?_) AllReadyH.nil
    rw [if_pos (by rfl)]
    refine wp_store_row 36 (.tmp 11) (.tmp 41) rfl w4.heap.size (dcells d) rfl rfl 36 #[.int .i64 0, .int .i64 0, .int .i64 0, .int .i64 0, .int .i64 0, .int .i64 0, .int .i64 0, .int .i64 0] (H5.out.box (List.mem_cons_self ..)) (by kernel_rfl) rfl (by kernel_rfl) ?_
    have H6 := Lib.hid (H5.out.setRow (cs' := dcells d))
    refine hP.out _ _ (⟨H6.out.kc, H6.out.cells (List.mem_cons_of_mem _ (List.mem_cons_self ..)), H6.out.cells (List.mem_cons_of_mem _ (List.mem_cons_of_mem _ (List.mem_cons_self ..)))⟩) (fun hh4 => ?_)
    clear hP P hh3
    simp only [Act.put]
    refine wpAnyH_take (fuel := 1) (i := 14) (oi := ⟨some 12, _, _, _, _, _⟩) (v := .int .i64 nn) rfl (by kernel_rfl) (by kernel_rfl) (by kernel_rfl) (fun _ _ _ h => h) (Or.inl ⟨by rfl, ?_⟩) hh4 ?_
    · intro w' _
      go_simp
    simp only [Act.put, List.setIfInBounds_toArray, List.set_cons_zero, List.set_cons_succ]
    refine wpAnyH_take (fuel := 0) (i := 15) (oi := ⟨some 13, _, _, _, _, _⟩) (v := .int .i64 er) rfl (by kernel_rfl) (by kernel_rfl) (by kernel_rfl) (fun _ _ _ h => h) (Or.inl ⟨by rfl, ?_⟩) hh4 ?_
    · intro w' _
      go_simp
    simp only [Act.put, List.setIfInBounds_toArray, List.set_cons_zero, List.set_cons_succ]
    refine wpAnyH_done (by kernel_rfl) ?_ _
    refine NoPanic.normal ?_
    clear hh4 H5 H4 H3
    generalize World.setRow (World.alloc w4 _) _ _ = w6 at *
    generalize w4.heap.size = m at *
    go_wp2
    go_ret2
    exact ⟨rfl, H6.out.drop.drop.drop⟩
  · go_simp
    have H4 := Lib.hid (H3.out.add (.cells #[.int .i64 0, .int .i64 0, .int .i64 0, .int .i64 0, .int .i64 0, .int .i64 0, .int .i64 0, .int .i64 0] 36))
    show P _ _
    refine hP.out _ _ (⟨H4.out.kc, H4.out.cells (List.mem_cons_of_mem _ (List.mem_cons_self ..)), H4.out.cells (List.mem_cons_of_mem _ (List.mem_cons_of_mem _ (List.mem_cons_self ..)))⟩) (fun hh2 => ?_)
    clear hP P hh
    refine wpAnyH_ready (fuel := 7) (rs := [7]) (by kernel_rfl) (by simp) ?_
    refine AllReadyH.cons (o := ⟨some 40, _, _, _, _, _⟩) rfl (fun P hP => ?_) AllReadyH.nil
    go_simp
    refine (HP.out _ _ H4.out).mono ?_
    rintro e w4 ⟨rfl, hb4⟩
    have H5 := Lib.hid (H4.out.step hb4)
    show P _ _
    refine hP.out _ _ (⟨H5.out.kc, H5.out.cells (List.mem_cons_of_mem _ (List.mem_cons_self ..)), H5.out.cells (List.mem_cons_of_mem _ (List.mem_cons_of_mem _ (List.mem_cons_self ..)))⟩) (fun hh3 => ?_)
    clear hP P hh2 hb4
    refine wpAnyH_take (fuel := 6) (i := 8) (oi := ⟨some 32, _, _, _, _, _⟩) (v := .tuple #[.agg (dcells d), .int .i64 nn, .int .i64 er]) rfl (by kernel_rfl) (by kernel_rfl) (by kernel_rfl) (fun _ _ _ h => h) (Or.inl ⟨by rfl, ?_⟩) hh3 ?_
    · intro w' _
      go_simp
    simp only [Act.put, List.setIfInBounds_toArray, List.set_cons_zero, List.set_cons_succ]
    refine wpAnyH_take (fuel := 5) (i := 9) (oi := ⟨some 41, _, _, _, _, _⟩) (v := .agg (dcells d)) rfl (by kernel_rfl) (by kernel_rfl) (by kernel_rfl) (fun _ _ _ h => h) (Or.inl ⟨by rfl, ?_⟩) hh3 ?_
    · intro w' _
      go_simp
    simp only [Act.put, List.setIfInBounds_toArray, List.set_cons_zero, List.set_cons_succ]
    refine wpAnyH_take (fuel := 4) (i := 10) (oi := ⟨some 42, _, _, _, _, _⟩) (v := .int .i64 nn) rfl (by kernel_rfl) (by kernel_rfl) (by kernel_rfl) (fun _ _ _ h => h) (Or.inl ⟨by rfl, ?_⟩) hh3 ?_
    · intro w' _
      go_simp
    simp only [Act.put, List.setIfInBounds_toArray, List.set_cons_zero, List.set_cons_succ]
    refine wpAnyH_take (fuel := 3) (i := 11) (oi := ⟨some 43, _, _, _, _, _⟩) (v := .int .i64 er) rfl (by kernel_rfl) (by kernel_rfl) (by kernel_rfl) (fun _ _ _ h => h) (Or.inl ⟨by rfl, ?_⟩) hh3 ?_
    · intro w' _
      go_simp
    simp only [Act.put, List.setIfInBounds_toArray, List.set_cons_zero, List.set_cons_succ]
    refine wpAnyH_ready (fuel := 2) (rs := [13]) (by kernel_rfl) (by simp) ?_
    refine AllReadyH.cons (o := ⟨none, _, _, _, _, _⟩) rfl (fun P hP => ?_) AllReadyH.nil
    rw [if_pos (by rfl)]
    refine wp_store_row 36 (.tmp 11) (.tmp 41) rfl w3.heap.size (dcells d) rfl rfl 36 #[.int .i64 0, .int .i64 0, .int .i64 0, .int .i64 0, .int .i64 0, .int .i64 0, .int .i64 0, .int .i64 0] (H5.out.box (List.mem_cons_self ..)) (by kernel_rfl) rfl (by kernel_rfl) ?_
    have H6 := Lib.hid (H5.out.setRow (cs' := dcells d))
    refine hP.out _ _ (⟨H6.out.kc, H6.out.cells (List.mem_cons_of_mem _ (List.mem_cons_self ..)), H6.out.cells (List.mem_cons_of_mem _ (List.mem_cons_of_mem _ (List.mem_cons_self ..)))⟩) (fun hh4 => ?_)
    clear hP P hh3
    simp only [Act.put]
    refine wpAnyH_take (fuel := 1) (i := 14) (oi := ⟨some 12, _, _, _, _, _⟩) (v := .int .i64 nn) rfl (by kernel_rfl) (by kernel_rfl) (by kernel_rfl) (fun _ _ _ h => h) (Or.inl ⟨by rfl, ?_⟩) hh4 ?_
    · intro w' _
      go_simp
    simp only [Act.put, List.setIfInBounds_toArray, List.set_cons_zero, List.set_cons_succ]
    refine wpAnyH_take (fuel := 0) (i := 15) (oi := ⟨some 13, _, _, _, _, _⟩) (v := .int .i64 er) rfl (by kernel_rfl) (by kernel_rfl) (by kernel_rfl) (fun _ _ _ h => h) (Or.inl ⟨by rfl, ?_⟩) hh4 ?_
    · intro w' _
      go_simp
    simp only [Act.put, List.setIfInBounds_toArray, List.set_cons_zero, List.set_cons_succ]
    refine wpAnyH_done (by kernel_rfl) ?_ _
    refine NoPanic.normal ?_
    clear hh4 H5 H4 H3
    generalize World.setRow w4 _ _ = w6 at *
    generalize w3.heap.size = m at *
    go_wp2
    go_ret2
    exact ⟨rfl, H6.out.drop.drop.drop⟩

set_option maxRecDepth 100000 in
set_option maxHeartbeats 4000000 in
theorem do_lets (h : OwnP w0 K c core n s bx w) (xk xa xv : Int) {d : Wd} {nn er : Int} (hap : Me.apP c (look c s (adL c xa)).wd ⟨xk, xa, xv⟩ = (d, nn, er)) (e1 : (er != 0) = false) (hl : (letsB (look c s (adL c xa)) (xk != 1)) = false) :
    Calls Tryz.prog 20 #[ptr K.k, Pg.ov ⟨xk, xa, xv⟩] w fun e w' => e = .returned (.tuple #[.int .i64 0, .int .i64 5]) ∧ OwnP w0 K c core n s bx w' := by
  have H0 := Lib.hid (h.add (.cells #[.int .i64 xk, .int .i64 xa, .int .i64 xv] 43))
  have HAd := Lib.hid (fun w1 bx (h : OwnP w0 K c core n s bx w1) => h.addr xa)
  have HLk := Lib.hid (fun w1 bx (h : OwnP w0 K c core n s bx w1) => h.look (adL c xa))
  have HP := Lib.hid (fun w1 bx (h : OwnP w0 K c core n s bx w1) => h.apply (look c s (adL c xa)).wd ⟨xk, xa, xv⟩)
  rw [hap] at HP
  have hk := H0.out.kc
  have hx := H0.out.cells (List.mem_cons_self ..)
  clear h hap
  generalize look c s (adL c xa) = y at *
  generalize there c s (adL c xa) = q at *
  generalize adL c xa = line at *
  generalize adW c xa = word at *
  generalize adE c xa = ae at *
  go_enter Tryz.func20, Tryz.ntmps20
  go_wp2_with fail
  go_region_held3 (fun w' => (∀ o, w'.cell? ⟨K.k, o, none⟩ = (kcells c core K)[o]?) ∧ (∀ o, w'.cell? ⟨w.heap.size, o, none⟩ = (#[Value.int .i64 xk, .int .i64 xa, .int .i64 xv])[o]?))
    (first | exact ⟨H1.out.kc, H1.out.cells (List.mem_cons_self ..)⟩ | exact ⟨hk, hx⟩ | go_keep)
    (first
      | (go_at_call 19; refine (HAd.out _ _ (by first | exact H0.out | exact H0.out.drew)).mono ?_; rintro e w1 ⟨rfl, hb1⟩; have H1 := (by first | exact Lib.hid (H0.out.step hb1) | exact Lib.hid (H0.out.drew.step hb1)); clear hb1))
  clear hk hx
  go_wp2_with fail
  refine (HLk.out _ _ H1.out).mono ?_
  rintro e w2 ⟨rfl, hb2⟩
  have H3 := Lib.hid ((H1.out.step hb2).add (.cells (Ar.ycells y) 66))
  clear hb2 H1
  go_wp2_with fail
  obtain ⟨w3, hw3⟩ : ∃ w3, w3 = w2.alloc (.cells (Ar.ycells y) 66) := ⟨_, rfl⟩
  rw [← hw3] at H3
  change Code.wp _ _ _ _ (w2.alloc (.cells (Ar.ycells y) 66))
  rw [← hw3]
  clear hw3
  refine wp_region_noPanic ?_
  refine wp_region_held_drew (S := (fun w' : World => (∀ o, w'.cell? ⟨K.k, o, none⟩ = (kcells c core K)[o]?) ∧ (∀ o, w'.cell? ⟨w2.heap.size, o, none⟩ = (Ar.ycells y)[o]?) ∧ (∀ o, w'.cell? ⟨w.heap.size, o, none⟩ = (#[Value.int .i64 xk, .int .i64 xa, .int .i64 xv])[o]?))) (by kernel_rfl) ⟨H3.out.kc, H3.out.cells (List.mem_cons_self ..), H3.out.cells (List.mem_cons_of_mem _ (List.mem_cons_self ..))⟩ (fun hh => ?_)
  replace H3 := Lib.hid H3.out.drew
  generalize World.drew w3 = w3 at *
  refine wpAnyH_take (fuel := 15) (i := 0) (oi := ⟨some 33, _, _, _, _, _⟩) (v := ptr K.k) rfl (by kernel_rfl) (by kernel_rfl) (by kernel_rfl) (fun _ _ _ h => h) (Or.inl ⟨by rfl, ?_⟩) hh ?_
  · intro w' _
    go_simp
  simp only [Act.put, List.setIfInBounds_toArray, List.set_cons_zero, List.set_cons_succ]
  refine wpAnyH_take (fuel := 14) (i := 1) (oi := ⟨some 34, _, _, _, _, _⟩) (v := ptr K.k) rfl (by kernel_rfl) (by kernel_rfl) (by kernel_rfl) (fun _ _ _ h => h) (Or.inl ⟨by rfl, ?_⟩) hh ?_
  · intro w' _
    go_simp
  simp only [Act.put, List.setIfInBounds_toArray, List.set_cons_zero, List.set_cons_succ]
  refine wpAnyH_take (fuel := 13) (i := 2) (oi := ⟨some 35, _, _, _, _, _⟩) (v := ptr K.k) rfl (by kernel_rfl) (by kernel_rfl) (by kernel_rfl) (fun _ _ _ h => h) (Or.inl ⟨by rfl, ?_⟩) hh ?_
  · intro w' _
    go_simp
  simp only [Act.put, List.setIfInBounds_toArray, List.set_cons_zero, List.set_cons_succ]
  refine wpAnyH_take (fuel := 12) (i := 3) (oi := ⟨some 36, _, _, _, _, _⟩) (v := cv c) rfl (by kernel_rfl) (by kernel_rfl) (by kernel_rfl) (fun _ _ _ h => h) (Or.inl ⟨by rfl, ?_⟩) hh ?_
  · rintro w' ⟨c0, -, -⟩
    go_simp
  simp only [Act.put, List.setIfInBounds_toArray, List.set_cons_zero, List.set_cons_succ]
  refine wpAnyH_take (fuel := 11) (i := 4) (oi := ⟨some 37, _, _, _, _, _⟩) (v := .pointer (some ⟨w2.heap.size, 2, none⟩)) rfl (by kernel_rfl) (by kernel_rfl) (by kernel_rfl) (fun _ _ _ h => h) (Or.inl ⟨by rfl, ?_⟩) hh ?_
  · intro w' _
    go_simp
  simp only [Act.put, List.setIfInBounds_toArray, List.set_cons_zero, List.set_cons_succ]
  refine wpAnyH_take (fuel := 10) (i := 5) (oi := ⟨some 38, _, _, _, _, _⟩) (v := .agg (dcells y.wd)) rfl (by kernel_rfl) (by kernel_rfl) (by kernel_rfl) (fun _ _ _ h => h) (Or.inl ⟨by rfl, ?_⟩) hh ?_
  · rintro w' ⟨-, c0, -⟩
    go_simp
  simp only [Act.put, List.setIfInBounds_toArray, List.set_cons_zero, List.set_cons_succ]
  refine wpAnyH_take (fuel := 9) (i := 6) (oi := ⟨some 39, _, _, _, _, _⟩) (v := .agg #[.int .i64 xk, .int .i64 xa, .int .i64 xv]) rfl (by kernel_rfl) (by kernel_rfl) (by kernel_rfl) (fun _ _ _ h => h) (Or.inl ⟨by rfl, ?_⟩) hh ?_
  · rintro w' ⟨-, -, c0⟩
    go_simp
  simp only [Act.put, List.setIfInBounds_toArray, List.set_cons_zero, List.set_cons_succ]
  refine wpAnyH_ready (fuel := 8) (rs := [7, 12]) (by kernel_rfl) (by simp) ?_
  refine AllReadyH.cons (o := ⟨some 40, _, _, _, _, _⟩) rfl (fun P hP => ?_) (AllReadyH.cons (o := ⟨some 11, _, _, _, _, _⟩) rfl (fun P hP => ?_) AllReadyH.nil)
  · go_simp
    refine (HP.out _ _ H3.out).mono ?_
    rintro e w4 ⟨rfl, hb4⟩
    have H4 := Lib.hid (H3.out.step hb4)
    show P _ _
    refine hP.out _ _ (⟨H4.out.kc, H4.out.cells (List.mem_cons_self ..), H4.out.cells (List.mem_cons_of_mem _ (List.mem_cons_self ..))⟩) (fun hh2 => ?_)
    clear hP P hh hb4
    refine wpAnyH_take (fuel := 7) (i := 8) (oi := ⟨some 32, _, _, _, _, _⟩) (v := .tuple #[.agg (dcells d), .int .i64 nn, .int .i64 er]) rfl (by kernel_rfl) (by kernel_rfl) (by kernel_rfl) (fun _ _ _ h => h) (Or.inl ⟨by rfl, ?_⟩) hh2 ?_
    · intro w' _
      go_simp
    simp only [Act.put, List.setIfInBounds_toArray, List.set_cons_zero, List.set_cons_succ]
    refine wpAnyH_take (fuel := 6) (i := 9) (oi := ⟨some 41, _, _, _, _, _⟩) (v := .agg (dcells d)) rfl (by kernel_rfl) (by kernel_rfl) (by kernel_rfl) (fun _ _ _ h => h) (Or.inl ⟨by rfl, ?_⟩) hh2 ?_
    · intro w' _
      go_simp
    simp only [Act.put, List.setIfInBounds_toArray, List.set_cons_zero, List.set_cons_succ]
    refine wpAnyH_take (fuel := 5) (i := 10) (oi := ⟨some 42, _, _, _, _, _⟩) (v := .int .i64 nn) rfl (by kernel_rfl) (by kernel_rfl) (by kernel_rfl) (fun _ _ _ h => h) (Or.inl ⟨by rfl, ?_⟩) hh2 ?_
    · intro w' _
      go_simp
    simp only [Act.put, List.setIfInBounds_toArray, List.set_cons_zero, List.set_cons_succ]
    refine wpAnyH_take (fuel := 4) (i := 11) (oi := ⟨some 43, _, _, _, _, _⟩) (v := .int .i64 er) rfl (by kernel_rfl) (by kernel_rfl) (by kernel_rfl) (fun _ _ _ h => h) (Or.inl ⟨by rfl, ?_⟩) hh2 ?_
    · intro w' _
      go_simp
    simp only [Act.put, List.setIfInBounds_toArray, List.set_cons_zero, List.set_cons_succ]
    refine wpAnyH_ready (fuel := 3) (rs := [12]) (by kernel_rfl) (by simp) ?_
    refine AllReadyH.cons (o := ⟨some 11, _, _, _, _, _⟩) rfl (fun P hP => ?_) AllReadyH.nil
    go_simp
    have H5 := Lib.hid (H4.out.add (.cells #[.int .i64 0, .int .i64 0, .int .i64 0, .int .i64 0, .int .i64 0, .int .i64 0, .int .i64 0, .int .i64 0] 36))
    show P _ _
    refine hP.out _ _ (⟨H5.out.kc, H5.out.cells (List.mem_cons_of_mem _ (List.mem_cons_self ..)), H5.out.cells (List.mem_cons_of_mem _ (List.mem_cons_of_mem _ (List.mem_cons_self ..)))⟩) (fun hh3 => ?_)
    clear hP P hh2
    refine wpAnyH_ready (fuel := 2) (rs := [13]) (by kernel_rfl) (by simp) ?_
    refine AllReadyH.cons (o := ⟨none, _, _, _, _, _⟩) rfl (fun P hP => ?_) AllReadyH.nil
    rw [if_pos (by rfl)]
    refine wp_store_row 36 (.tmp 11) (.tmp 41) rfl w4.heap.size (dcells d) rfl rfl 36 #[.int .i64 0, .int .i64 0, .int .i64 0, .int .i64 0, .int .i64 0, .int .i64 0, .int .i64 0, .int .i64 0] (H5.out.box (List.mem_cons_self ..)) (by kernel_rfl) rfl (by kernel_rfl) ?_
    have H6 := Lib.hid (H5.out.setRow (cs' := dcells d))
    refine hP.out _ _ (⟨H6.out.kc, H6.out.cells (List.mem_cons_of_mem _ (List.mem_cons_self ..)), H6.out.cells (List.mem_cons_of_mem _ (List.mem_cons_of_mem _ (List.mem_cons_self ..)))⟩) (fun hh4 => ?_)
    clear hP P hh3
    simp only [Act.put]
    refine wpAnyH_take (fuel := 1) (i := 14) (oi := ⟨some 12, _, _, _, _, _⟩) (v := .int .i64 nn) rfl (by kernel_rfl) (by kernel_rfl) (by kernel_rfl) (fun _ _ _ h => h) (Or.inl ⟨by rfl, ?_⟩) hh4 ?_
    · intro w' _
      go_simp
    simp only [Act.put, List.setIfInBounds_toArray, List.set_cons_zero, List.set_cons_succ]
    refine wpAnyH_take (fuel := 0) (i := 15) (oi := ⟨some 13, _, _, _, _, _⟩) (v := .int .i64 er) rfl (by kernel_rfl) (by kernel_rfl) (by kernel_rfl) (fun _ _ _ h => h) (Or.inl ⟨by rfl, ?_⟩) hh4 ?_
    · intro w' _
      go_simp
    simp only [Act.put, List.setIfInBounds_toArray, List.set_cons_zero, List.set_cons_succ]
    refine wpAnyH_done (by kernel_rfl) ?_ _
    refine NoPanic.normal ?_
    clear hh4 H5 H4 H3
    generalize World.setRow (World.alloc w4 _) _ _ = w6 at *
    generalize w4.heap.size = m at *
    have hx6 := H6.out.cells (List.mem_cons_of_mem _ (List.mem_cons_of_mem _ (List.mem_cons_self ..)))
    have hy6 := H6.out.cells (List.mem_cons_of_mem _ (List.mem_cons_self ..))
    go_wp2_with fail
    refine (lets_any y _ _).mono ?_
    rintro e w7 ⟨rfl, hb7⟩
    rw [hl]
    have H7 := Lib.hid (H6.out.step hb7)
    clear hb7 hx6 hy6 H6
    go_wp2
    go_ret2
    exact ⟨rfl, H7.out.drop.drop.drop⟩
  · go_simp
    have H4 := Lib.hid (H3.out.add (.cells #[.int .i64 0, .int .i64 0, .int .i64 0, .int .i64 0, .int .i64 0, .int .i64 0, .int .i64 0, .int .i64 0] 36))
    show P _ _
    refine hP.out _ _ (⟨H4.out.kc, H4.out.cells (List.mem_cons_of_mem _ (List.mem_cons_self ..)), H4.out.cells (List.mem_cons_of_mem _ (List.mem_cons_of_mem _ (List.mem_cons_self ..)))⟩) (fun hh2 => ?_)
    clear hP P hh
    refine wpAnyH_ready (fuel := 7) (rs := [7]) (by kernel_rfl) (by simp) ?_
    refine AllReadyH.cons (o := ⟨some 40, _, _, _, _, _⟩) rfl (fun P hP => ?_) AllReadyH.nil
    go_simp
    refine (HP.out _ _ H4.out).mono ?_
    rintro e w4 ⟨rfl, hb4⟩
    have H5 := Lib.hid (H4.out.step hb4)
    show P _ _
    refine hP.out _ _ (⟨H5.out.kc, H5.out.cells (List.mem_cons_of_mem _ (List.mem_cons_self ..)), H5.out.cells (List.mem_cons_of_mem _ (List.mem_cons_of_mem _ (List.mem_cons_self ..)))⟩) (fun hh3 => ?_)
    clear hP P hh2 hb4
    refine wpAnyH_take (fuel := 6) (i := 8) (oi := ⟨some 32, _, _, _, _, _⟩) (v := .tuple #[.agg (dcells d), .int .i64 nn, .int .i64 er]) rfl (by kernel_rfl) (by kernel_rfl) (by kernel_rfl) (fun _ _ _ h => h) (Or.inl ⟨by rfl, ?_⟩) hh3 ?_
    · intro w' _
      go_simp
    simp only [Act.put, List.setIfInBounds_toArray, List.set_cons_zero, List.set_cons_succ]
    refine wpAnyH_take (fuel := 5) (i := 9) (oi := ⟨some 41, _, _, _, _, _⟩) (v := .agg (dcells d)) rfl (by kernel_rfl) (by kernel_rfl) (by kernel_rfl) (fun _ _ _ h => h) (Or.inl ⟨by rfl, ?_⟩) hh3 ?_
    · intro w' _
      go_simp
    simp only [Act.put, List.setIfInBounds_toArray, List.set_cons_zero, List.set_cons_succ]
    refine wpAnyH_take (fuel := 4) (i := 10) (oi := ⟨some 42, _, _, _, _, _⟩) (v := .int .i64 nn) rfl (by kernel_rfl) (by kernel_rfl) (by kernel_rfl) (fun _ _ _ h => h) (Or.inl ⟨by rfl, ?_⟩) hh3 ?_
    · intro w' _
      go_simp
    simp only [Act.put, List.setIfInBounds_toArray, List.set_cons_zero, List.set_cons_succ]
    refine wpAnyH_take (fuel := 3) (i := 11) (oi := ⟨some 43, _, _, _, _, _⟩) (v := .int .i64 er) rfl (by kernel_rfl) (by kernel_rfl) (by kernel_rfl) (fun _ _ _ h => h) (Or.inl ⟨by rfl, ?_⟩) hh3 ?_
    · intro w' _
      go_simp
    simp only [Act.put, List.setIfInBounds_toArray, List.set_cons_zero, List.set_cons_succ]
    refine wpAnyH_ready (fuel := 2) (rs := [13]) (by kernel_rfl) (by simp) ?_
    refine AllReadyH.cons (o := ⟨none, _, _, _, _, _⟩) rfl (fun P hP => ?_) AllReadyH.nil
    rw [if_pos (by rfl)]
    refine wp_store_row 36 (.tmp 11) (.tmp 41) rfl w3.heap.size (dcells d) rfl rfl 36 #[.int .i64 0, .int .i64 0, .int .i64 0, .int .i64 0, .int .i64 0, .int .i64 0, .int .i64 0, .int .i64 0] (H5.out.box (List.mem_cons_self ..)) (by kernel_rfl) rfl (by kernel_rfl) ?_
    have H6 := Lib.hid (H5.out.setRow (cs' := dcells d))
    refine hP.out _ _ (⟨H6.out.kc, H6.out.cells (List.mem_cons_of_mem _ (List.mem_cons_self ..)), H6.out.cells (List.mem_cons_of_mem _ (List.mem_cons_of_mem _ (List.mem_cons_self ..)))⟩) (fun hh4 => ?_)
    clear hP P hh3
    simp only [Act.put]
    refine wpAnyH_take (fuel := 1) (i := 14) (oi := ⟨some 12, _, _, _, _, _⟩) (v := .int .i64 nn) rfl (by kernel_rfl) (by kernel_rfl) (by kernel_rfl) (fun _ _ _ h => h) (Or.inl ⟨by rfl, ?_⟩) hh4 ?_
    · intro w' _
      go_simp
    simp only [Act.put, List.setIfInBounds_toArray, List.set_cons_zero, List.set_cons_succ]
    refine wpAnyH_take (fuel := 0) (i := 15) (oi := ⟨some 13, _, _, _, _, _⟩) (v := .int .i64 er) rfl (by kernel_rfl) (by kernel_rfl) (by kernel_rfl) (fun _ _ _ h => h) (Or.inl ⟨by rfl, ?_⟩) hh4 ?_
    · intro w' _
      go_simp
    simp only [Act.put, List.setIfInBounds_toArray, List.set_cons_zero, List.set_cons_succ]
    refine wpAnyH_done (by kernel_rfl) ?_ _
    refine NoPanic.normal ?_
    clear hh4 H5 H4 H3
    generalize World.setRow w4 _ _ = w6 at *
    generalize w3.heap.size = m at *
    have hx6 := H6.out.cells (List.mem_cons_of_mem _ (List.mem_cons_of_mem _ (List.mem_cons_self ..)))
    have hy6 := H6.out.cells (List.mem_cons_of_mem _ (List.mem_cons_self ..))
    go_wp2_with fail
    refine (lets_any y _ _).mono ?_
    rintro e w7 ⟨rfl, hb7⟩
    rw [hl]
    have H7 := Lib.hid (H6.out.step hb7)
    clear hb7 hx6 hy6 H6
    go_wp2
    go_ret2
    exact ⟨rfl, H7.out.drop.drop.drop⟩

set_option maxRecDepth 100000 in
set_option maxHeartbeats 4000000 in
theorem do_load (h : OwnP w0 K c core n s bx w) (xk xa xv : Int) {d : Wd} {nn er : Int} (hap : Me.apP c (look c s (adL c xa)).wd ⟨xk, xa, xv⟩ = (d, nn, er)) (e1 : (er != 0) = false) (k1 : (xk != 1) = false) (hl : letsB (look c s (adL c xa)) false = true) :
    Calls Tryz.prog 20 #[ptr K.k, Pg.ov ⟨xk, xa, xv⟩] w fun e w' => e = .returned (.tuple #[.int .i64 nn, .int .i64 0]) ∧ OwnP w0 K c core n s bx w' := by
  have H0 := Lib.hid (h.add (.cells #[.int .i64 xk, .int .i64 xa, .int .i64 xv] 43))
  have HAd := Lib.hid (fun w1 bx (h : OwnP w0 K c core n s bx w1) => h.addr xa)
  have HLk := Lib.hid (fun w1 bx (h : OwnP w0 K c core n s bx w1) => h.look (adL c xa))
  have HP := Lib.hid (fun w1 bx (h : OwnP w0 K c core n s bx w1) => h.apply (look c s (adL c xa)).wd ⟨xk, xa, xv⟩)
  rw [hap] at HP
  have hk := H0.out.kc
  have hx := H0.out.cells (List.mem_cons_self ..)
  clear h hap
  generalize look c s (adL c xa) = y at *
  generalize there c s (adL c xa) = q at *
  generalize adL c xa = line at *
  generalize adW c xa = word at *
  generalize adE c xa = ae at *
  go_enter Tryz.func20, Tryz.ntmps20
  go_wp2_with fail
  go_region_held3 (fun w' => (∀ o, w'.cell? ⟨K.k, o, none⟩ = (kcells c core K)[o]?) ∧ (∀ o, w'.cell? ⟨w.heap.size, o, none⟩ = (#[Value.int .i64 xk, .int .i64 xa, .int .i64 xv])[o]?))
    (first | exact ⟨H1.out.kc, H1.out.cells (List.mem_cons_self ..)⟩ | exact ⟨hk, hx⟩ | go_keep)
    (first
      | (go_at_call 19; refine (HAd.out _ _ (by first | exact H0.out | exact H0.out.drew)).mono ?_; rintro e w1 ⟨rfl, hb1⟩; have H1 := (by first | exact Lib.hid (H0.out.step hb1) | exact Lib.hid (H0.out.drew.step hb1)); clear hb1))
  clear hk hx
  go_wp2_with fail
  refine (HLk.out _ _ H1.out).mono ?_
  rintro e w2 ⟨rfl, hb2⟩
  have H3 := Lib.hid ((H1.out.step hb2).add (.cells (Ar.ycells y) 66))
  clear hb2 H1
  go_wp2_with fail
  obtain ⟨w3, hw3⟩ : ∃ w3, w3 = w2.alloc (.cells (Ar.ycells y) 66) := ⟨_, rfl⟩
  rw [← hw3] at H3
  change Code.wp _ _ _ _ (w2.alloc (.cells (Ar.ycells y) 66))
  rw [← hw3]
  clear hw3
  refine wp_region_noPanic ?_
  refine wp_region_held_drew (S := (fun w' : World => (∀ o, w'.cell? ⟨K.k, o, none⟩ = (kcells c core K)[o]?) ∧ (∀ o, w'.cell? ⟨w2.heap.size, o, none⟩ = (Ar.ycells y)[o]?) ∧ (∀ o, w'.cell? ⟨w.heap.size, o, none⟩ = (#[Value.int .i64 xk, .int .i64 xa, .int .i64 xv])[o]?))) (by kernel_rfl) ⟨H3.out.kc, H3.out.cells (List.mem_cons_self ..), H3.out.cells (List.mem_cons_of_mem _ (List.mem_cons_self ..))⟩ (fun hh => ?_)
  replace H3 := Lib.hid H3.out.drew
  generalize World.drew w3 = w3 at *
  refine wpAnyH_take (fuel := 15) (i := 0) (oi := ⟨some 33, _, _, _, _, _⟩) (v := ptr K.k) rfl (by kernel_rfl) (by kernel_rfl) (by kernel_rfl) (fun _ _ _ h => h) (Or.inl ⟨by rfl, ?_⟩) hh ?_
  · intro w' _
    go_simp
  simp only [Act.put, List.setIfInBounds_toArray, List.set_cons_zero, List.set_cons_succ]
  refine wpAnyH_take (fuel := 14) (i := 1) (oi := ⟨some 34, _, _, _, _, _⟩) (v := ptr K.k) rfl (by kernel_rfl) (by kernel_rfl) (by kernel_rfl) (fun _ _ _ h => h) (Or.inl ⟨by rfl, ?_⟩) hh ?_
  · intro w' _
    go_simp
  simp only [Act.put, List.setIfInBounds_toArray, List.set_cons_zero, List.set_cons_succ]
  refine wpAnyH_take (fuel := 13) (i := 2) (oi := ⟨some 35, _, _, _, _, _⟩) (v := ptr K.k) rfl (by kernel_rfl) (by kernel_rfl) (by kernel_rfl) (fun _ _ _ h => h) (Or.inl ⟨by rfl, ?_⟩) hh ?_
  · intro w' _
    go_simp
  simp only [Act.put, List.setIfInBounds_toArray, List.set_cons_zero, List.set_cons_succ]
  refine wpAnyH_take (fuel := 12) (i := 3) (oi := ⟨some 36, _, _, _, _, _⟩) (v := cv c) rfl (by kernel_rfl) (by kernel_rfl) (by kernel_rfl) (fun _ _ _ h => h) (Or.inl ⟨by rfl, ?_⟩) hh ?_
  · rintro w' ⟨c0, -, -⟩
    go_simp
  simp only [Act.put, List.setIfInBounds_toArray, List.set_cons_zero, List.set_cons_succ]
  refine wpAnyH_take (fuel := 11) (i := 4) (oi := ⟨some 37, _, _, _, _, _⟩) (v := .pointer (some ⟨w2.heap.size, 2, none⟩)) rfl (by kernel_rfl) (by kernel_rfl) (by kernel_rfl) (fun _ _ _ h => h) (Or.inl ⟨by rfl, ?_⟩) hh ?_
  · intro w' _
    go_simp
  simp only [Act.put, List.setIfInBounds_toArray, List.set_cons_zero, List.set_cons_succ]
  refine wpAnyH_take (fuel := 10) (i := 5) (oi := ⟨some 38, _, _, _, _, _⟩) (v := .agg (dcells y.wd)) rfl (by kernel_rfl) (by kernel_rfl) (by kernel_rfl) (fun _ _ _ h => h) (Or.inl ⟨by rfl, ?_⟩) hh ?_
  · rintro w' ⟨-, c0, -⟩
    go_simp
  simp only [Act.put, List.setIfInBounds_toArray, List.set_cons_zero, List.set_cons_succ]
  refine wpAnyH_take (fuel := 9) (i := 6) (oi := ⟨some 39, _, _, _, _, _⟩) (v := .agg #[.int .i64 xk, .int .i64 xa, .int .i64 xv]) rfl (by kernel_rfl) (by kernel_rfl) (by kernel_rfl) (fun _ _ _ h => h) (Or.inl ⟨by rfl, ?_⟩) hh ?_
  · rintro w' ⟨-, -, c0⟩
    go_simp
  simp only [Act.put, List.setIfInBounds_toArray, List.set_cons_zero, List.set_cons_succ]
  refine wpAnyH_ready (fuel := 8) (rs := [7, 12]) (by kernel_rfl) (by simp) ?_
  refine AllReadyH.cons (o := ⟨some 40, _, _, _, _, _⟩) rfl (fun P hP => ?_) (AllReadyH.cons (o := ⟨some 11, _, _, _, _, _⟩) rfl (fun P hP => ?_) AllReadyH.nil)
  · go_simp
    refine (HP.out _ _ H3.out).mono ?_
    rintro e w4 ⟨rfl, hb4⟩
    have H4 := Lib.hid (H3.out.step hb4)
    show P _ _
    refine hP.out _ _ (⟨H4.out.kc, H4.out.cells (List.mem_cons_self ..), H4.out.cells (List.mem_cons_of_mem _ (List.mem_cons_self ..))⟩) (fun hh2 => ?_)
    clear hP P hh hb4
    refine wpAnyH_take (fuel := 7) (i := 8) (oi := ⟨some 32, _, _, _, _, _⟩) (v := .tuple #[.agg (dcells d), .int .i64 nn, .int .i64 er]) rfl (by kernel_rfl) (by kernel_rfl) (by kernel_rfl) (fun _ _ _ h => h) (Or.inl ⟨by rfl, ?_⟩) hh2 ?_
    · intro w' _
      go_simp
    simp only [Act.put, List.setIfInBounds_toArray, List.set_cons_zero, List.set_cons_succ]
    refine wpAnyH_take (fuel := 6) (i := 9) (oi := ⟨some 41, _, _, _, _, _⟩) (v := .agg (dcells d)) rfl (by kernel_rfl) (by kernel_rfl) (by kernel_rfl) (fun _ _ _ h => h) (Or.inl ⟨by rfl, ?_⟩) hh2 ?_
    · intro w' _
      go_simp
    simp only [Act.put, List.setIfInBounds_toArray, List.set_cons_zero, List.set_cons_succ]
    refine wpAnyH_take (fuel := 5) (i := 10) (oi := ⟨some 42, _, _, _, _, _⟩) (v := .int .i64 nn) rfl (by kernel_rfl) (by kernel_rfl) (by kernel_rfl) (fun _ _ _ h => h) (Or.inl ⟨by rfl, ?_⟩) hh2 ?_
    · intro w' _
      go_simp
    simp only [Act.put, List.setIfInBounds_toArray, List.set_cons_zero, List.set_cons_succ]
    refine wpAnyH_take (fuel := 4) (i := 11) (oi := ⟨some 43, _, _, _, _, _⟩) (v := .int .i64 er) rfl (by kernel_rfl) (by kernel_rfl) (by kernel_rfl) (fun _ _ _ h => h) (Or.inl ⟨by rfl, ?_⟩) hh2 ?_
    · intro w' _
      go_simp
    simp only [Act.put, List.setIfInBounds_toArray, List.set_cons_zero, List.set_cons_succ]
    refine wpAnyH_ready (fuel := 3) (rs := [12]) (by kernel_rfl) (by simp) ?_
    refine AllReadyH.cons (o := ⟨some 11, _, _, _, _, _⟩) rfl (fun P hP => ?_) AllReadyH.nil
    go_simp
    have H5 := Lib.hid (H4.out.add (.cells #[.int .i64 0, .int .i64 0, .int .i64 0, .int .i64 0, .int .i64 0, .int .i64 0, .int .i64 0, .int .i64 0] 36))
    show P _ _
    refine hP.out _ _ (⟨H5.out.kc, H5.out.cells (List.mem_cons_of_mem _ (List.mem_cons_self ..)), H5.out.cells (List.mem_cons_of_mem _ (List.mem_cons_of_mem _ (List.mem_cons_self ..)))⟩) (fun hh3 => ?_)
    clear hP P hh2
    refine wpAnyH_ready (fuel := 2) (rs := [13]) (by kernel_rfl) (by simp) ?_
    refine AllReadyH.cons (o := ⟨none, _, _, _, _, _⟩) rfl (fun P hP => ?_) AllReadyH.nil
    rw [if_pos (by rfl)]
    refine wp_store_row 36 (.tmp 11) (.tmp 41) rfl w4.heap.size (dcells d) rfl rfl 36 #[.int .i64 0, .int .i64 0, .int .i64 0, .int .i64 0, .int .i64 0, .int .i64 0, .int .i64 0, .int .i64 0] (H5.out.box (List.mem_cons_self ..)) (by kernel_rfl) rfl (by kernel_rfl) ?_
    have H6 := Lib.hid (H5.out.setRow (cs' := dcells d))
    refine hP.out _ _ (⟨H6.out.kc, H6.out.cells (List.mem_cons_of_mem _ (List.mem_cons_self ..)), H6.out.cells (List.mem_cons_of_mem _ (List.mem_cons_of_mem _ (List.mem_cons_self ..)))⟩) (fun hh4 => ?_)
    clear hP P hh3
    simp only [Act.put]
    refine wpAnyH_take (fuel := 1) (i := 14) (oi := ⟨some 12, _, _, _, _, _⟩) (v := .int .i64 nn) rfl (by kernel_rfl) (by kernel_rfl) (by kernel_rfl) (fun _ _ _ h => h) (Or.inl ⟨by rfl, ?_⟩) hh4 ?_
    · intro w' _
      go_simp
    simp only [Act.put, List.setIfInBounds_toArray, List.set_cons_zero, List.set_cons_succ]
    refine wpAnyH_take (fuel := 0) (i := 15) (oi := ⟨some 13, _, _, _, _, _⟩) (v := .int .i64 er) rfl (by kernel_rfl) (by kernel_rfl) (by kernel_rfl) (fun _ _ _ h => h) (Or.inl ⟨by rfl, ?_⟩) hh4 ?_
    · intro w' _
      go_simp
    simp only [Act.put, List.setIfInBounds_toArray, List.set_cons_zero, List.set_cons_succ]
    refine wpAnyH_done (by kernel_rfl) ?_ _
    refine NoPanic.normal ?_
    clear hh4 H5 H4 H3
    generalize World.setRow (World.alloc w4 _) _ _ = w6 at *
    generalize w4.heap.size = m at *
    have hx6 := H6.out.cells (List.mem_cons_of_mem _ (List.mem_cons_of_mem _ (List.mem_cons_self ..)))
    have hy6 := H6.out.cells (List.mem_cons_of_mem _ (List.mem_cons_self ..))
    go_wp2_with fail
    refine (lets_any y _ _).mono ?_
    rintro e w7 ⟨rfl, hb7⟩
    rw [hl]
    have H7 := Lib.hid (H6.out.step hb7)
    clear hb7 hx6 hy6 H6
    go_wp2
    go_ret2
    exact ⟨rfl, H7.out.drop.drop.drop⟩
  · go_simp
    have H4 := Lib.hid (H3.out.add (.cells #[.int .i64 0, .int .i64 0, .int .i64 0, .int .i64 0, .int .i64 0, .int .i64 0, .int .i64 0, .int .i64 0] 36))
    show P _ _
    refine hP.out _ _ (⟨H4.out.kc, H4.out.cells (List.mem_cons_of_mem _ (List.mem_cons_self ..)), H4.out.cells (List.mem_cons_of_mem _ (List.mem_cons_of_mem _ (List.mem_cons_self ..)))⟩) (fun hh2 => ?_)
    clear hP P hh
    refine wpAnyH_ready (fuel := 7) (rs := [7]) (by kernel_rfl) (by simp) ?_
    refine AllReadyH.cons (o := ⟨some 40, _, _, _, _, _⟩) rfl (fun P hP => ?_) AllReadyH.nil
    go_simp
    refine (HP.out _ _ H4.out).mono ?_
    rintro e w4 ⟨rfl, hb4⟩
    have H5 := Lib.hid (H4.out.step hb4)
    show P _ _
    refine hP.out _ _ (⟨H5.out.kc, H5.out.cells (List.mem_cons_of_mem _ (List.mem_cons_self ..)), H5.out.cells (List.mem_cons_of_mem _ (List.mem_cons_of_mem _ (List.mem_cons_self ..)))⟩) (fun hh3 => ?_)
    clear hP P hh2 hb4
    refine wpAnyH_take (fuel := 6) (i := 8) (oi := ⟨some 32, _, _, _, _, _⟩) (v := .tuple #[.agg (dcells d), .int .i64 nn, .int .i64 er]) rfl (by kernel_rfl) (by kernel_rfl) (by kernel_rfl) (fun _ _ _ h => h) (Or.inl ⟨by rfl, ?_⟩) hh3 ?_
    · intro w' _
      go_simp
    simp only [Act.put, List.setIfInBounds_toArray, List.set_cons_zero, List.set_cons_succ]
    refine wpAnyH_take (fuel := 5) (i := 9) (oi := ⟨some 41, _, _, _, _, _⟩) (v := .agg (dcells d)) rfl (by kernel_rfl) (by kernel_rfl) (by kernel_rfl) (fun _ _ _ h => h) (Or.inl ⟨by rfl, ?_⟩) hh3 ?_
    · intro w' _
      go_simp
    simp only [Act.put, List.setIfInBounds_toArray, List.set_cons_zero, List.set_cons_succ]
    refine wpAnyH_take (fuel := 4) (i := 10) (oi := ⟨some 42, _, _, _, _, _⟩) (v := .int .i64 nn) rfl (by kernel_rfl) (by kernel_rfl) (by kernel_rfl) (fun _ _ _ h => h) (Or.inl ⟨by rfl, ?_⟩) hh3 ?_
    · intro w' _
      go_simp
    simp only [Act.put, List.setIfInBounds_toArray, List.set_cons_zero, List.set_cons_succ]
    refine wpAnyH_take (fuel := 3) (i := 11) (oi := ⟨some 43, _, _, _, _, _⟩) (v := .int .i64 er) rfl (by kernel_rfl) (by kernel_rfl) (by kernel_rfl) (fun _ _ _ h => h) (Or.inl ⟨by rfl, ?_⟩) hh3 ?_
    · intro w' _
      go_simp
    simp only [Act.put, List.setIfInBounds_toArray, List.set_cons_zero, List.set_cons_succ]
    refine wpAnyH_ready (fuel := 2) (rs := [13]) (by kernel_rfl) (by simp) ?_
    refine AllReadyH.cons (o := ⟨none, _, _, _, _, _⟩) rfl (fun P hP => ?_) AllReadyH.nil
    rw [if_pos (by rfl)]
    refine wp_store_row 36 (.tmp 11) (.tmp 41) rfl w3.heap.size (dcells d) rfl rfl 36 #[.int .i64 0, .int .i64 0, .int .i64 0, .int .i64 0, .int .i64 0, .int .i64 0, .int .i64 0, .int .i64 0] (H5.out.box (List.mem_cons_self ..)) (by kernel_rfl) rfl (by kernel_rfl) ?_
    have H6 := Lib.hid (H5.out.setRow (cs' := dcells d))
    refine hP.out _ _ (⟨H6.out.kc, H6.out.cells (List.mem_cons_of_mem _ (List.mem_cons_self ..)), H6.out.cells (List.mem_cons_of_mem _ (List.mem_cons_of_mem _ (List.mem_cons_self ..)))⟩) (fun hh4 => ?_)
    clear hP P hh3
    simp only [Act.put]
    refine wpAnyH_take (fuel := 1) (i := 14) (oi := ⟨some 12, _, _, _, _, _⟩) (v := .int .i64 nn) rfl (by kernel_rfl) (by kernel_rfl) (by kernel_rfl) (fun _ _ _ h => h) (Or.inl ⟨by rfl, ?_⟩) hh4 ?_
    · intro w' _
      go_simp
    simp only [Act.put, List.setIfInBounds_toArray, List.set_cons_zero, List.set_cons_succ]
    refine wpAnyH_take (fuel := 0) (i := 15) (oi := ⟨some 13, _, _, _, _, _⟩) (v := .int .i64 er) rfl (by kernel_rfl) (by kernel_rfl) (by kernel_rfl) (fun _ _ _ h => h) (Or.inl ⟨by rfl, ?_⟩) hh4 ?_
    · intro w' _
      go_simp
    simp only [Act.put, List.setIfInBounds_toArray, List.set_cons_zero, List.set_cons_succ]
    refine wpAnyH_done (by kernel_rfl) ?_ _
    refine NoPanic.normal ?_
    clear hh4 H5 H4 H3
    generalize World.setRow w4 _ _ = w6 at *
    generalize w3.heap.size = m at *
    have hx6 := H6.out.cells (List.mem_cons_of_mem _ (List.mem_cons_of_mem _ (List.mem_cons_self ..)))
    have hy6 := H6.out.cells (List.mem_cons_of_mem _ (List.mem_cons_self ..))
    go_wp2_with fail
    refine (lets_any y _ _).mono ?_
    rintro e w7 ⟨rfl, hb7⟩
    rw [hl]
    have H7 := Lib.hid (H6.out.step hb7)
    clear hb7 hx6 hy6 H6
    go_wp2
    go_ret2
    exact ⟨rfl, H7.out.drop.drop.drop⟩

set_option maxRecDepth 100000 in
set_option maxHeartbeats 4000000 in
theorem do_set (h : OwnP w0 K c core n s bx w) (xk xa xv : Int) {d : Wd} {nn er : Int} (hap : Me.apP c (look c s (adL c xa)).wd ⟨xk, xa, xv⟩ = (d, nn, er)) (e1 : (er != 0) = false) (k1 : (xk != 1) = true) (hl : letsB (look c s (adL c xa)) true = true) :
    Calls Tryz.prog 20 #[ptr K.k, Pg.ov ⟨xk, xa, xv⟩] w fun e w' => e = .returned (.tuple #[.int .i64 nn, .int .i64 0]) ∧ OwnP w0 K c core n (setA c s (adL c xa) 4 d) bx w' := by
  have H0 := Lib.hid (h.add (.cells #[.int .i64 xk, .int .i64 xa, .int .i64 xv] 43))
  have HAd := Lib.hid (fun w1 bx (h : OwnP w0 K c core n s bx w1) => h.addr xa)
  have HLk := Lib.hid (fun w1 bx (h : OwnP w0 K c core n s bx w1) => h.look (adL c xa))
  have HP := Lib.hid (fun w1 bx (h : OwnP w0 K c core n s bx w1) => h.apply (look c s (adL c xa)).wd ⟨xk, xa, xv⟩)
  rw [hap] at HP
  have hk := H0.out.kc
  have hx := H0.out.cells (List.mem_cons_self ..)
  clear h hap
  generalize look c s (adL c xa) = y at *
  generalize there c s (adL c xa) = q at *
  generalize adL c xa = line at *
  generalize adW c xa = word at *
  generalize adE c xa = ae at *
  go_enter Tryz.func20, Tryz.ntmps20
  go_wp2_with fail
  go_region_held3 (fun w' => (∀ o, w'.cell? ⟨K.k, o, none⟩ = (kcells c core K)[o]?) ∧ (∀ o, w'.cell? ⟨w.heap.size, o, none⟩ = (#[Value.int .i64 xk, .int .i64 xa, .int .i64 xv])[o]?))
    (first | exact ⟨H1.out.kc, H1.out.cells (List.mem_cons_self ..)⟩ | exact ⟨hk, hx⟩ | go_keep)
    (first
      | (go_at_call 19; refine (HAd.out _ _ (by first | exact H0.out | exact H0.out.drew)).mono ?_; rintro e w1 ⟨rfl, hb1⟩; have H1 := (by first | exact Lib.hid (H0.out.step hb1) | exact Lib.hid (H0.out.drew.step hb1)); clear hb1))
  clear hk hx
  go_wp2_with fail
  refine (HLk.out _ _ H1.out).mono ?_
  rintro e w2 ⟨rfl, hb2⟩
  have H3 := Lib.hid ((H1.out.step hb2).add (.cells (Ar.ycells y) 66))
  clear hb2 H1
  go_wp2_with fail
  obtain ⟨w3, hw3⟩ : ∃ w3, w3 = w2.alloc (.cells (Ar.ycells y) 66) := ⟨_, rfl⟩
  rw [← hw3] at H3
  change Code.wp _ _ _ _ (w2.alloc (.cells (Ar.ycells y) 66))
  rw [← hw3]
  clear hw3
  refine wp_region_noPanic ?_
  refine wp_region_held_drew (S := (fun w' : World => (∀ o, w'.cell? ⟨K.k, o, none⟩ = (kcells c core K)[o]?) ∧ (∀ o, w'.cell? ⟨w2.heap.size, o, none⟩ = (Ar.ycells y)[o]?) ∧ (∀ o, w'.cell? ⟨w.heap.size, o, none⟩ = (#[Value.int .i64 xk, .int .i64 xa, .int .i64 xv])[o]?))) (by kernel_rfl) ⟨H3.out.kc, H3.out.cells (List.mem_cons_self ..), H3.out.cells (List.mem_cons_of_mem _ (List.mem_cons_self ..))⟩ (fun hh => ?_)
  replace H3 := Lib.hid H3.out.drew
  generalize World.drew w3 = w3 at *
  refine wpAnyH_take (fuel := 15) (i := 0) (oi := ⟨some 33, _, _, _, _, _⟩) (v := ptr K.k) rfl (by kernel_rfl) (by kernel_rfl) (by kernel_rfl) (fun _ _ _ h => h) (Or.inl ⟨by rfl, ?_⟩) hh ?_
  · intro w' _
    go_simp
  simp only [Act.put, List.setIfInBounds_toArray, List.set_cons_zero, List.set_cons_succ]
  refine wpAnyH_take (fuel := 14) (i := 1) (oi := ⟨some 34, _, _, _, _, _⟩) (v := ptr K.k) rfl (by kernel_rfl) (by kernel_rfl) (by kernel_rfl) (fun _ _ _ h => h) (Or.inl ⟨by rfl, ?_⟩) hh ?_
  · intro w' _
    go_simp
  simp only [Act.put, List.setIfInBounds_toArray, List.set_cons_zero, List.set_cons_succ]
  refine wpAnyH_take (fuel := 13) (i := 2) (oi := ⟨some 35, _, _, _, _, _⟩) (v := ptr K.k) rfl (by kernel_rfl) (by kernel_rfl) (by kernel_rfl) (fun _ _ _ h => h) (Or.inl ⟨by rfl, ?_⟩) hh ?_
  · intro w' _
    go_simp
  simp only [Act.put, List.setIfInBounds_toArray, List.set_cons_zero, List.set_cons_succ]
  refine wpAnyH_take (fuel := 12) (i := 3) (oi := ⟨some 36, _, _, _, _, _⟩) (v := cv c) rfl (by kernel_rfl) (by kernel_rfl) (by kernel_rfl) (fun _ _ _ h => h) (Or.inl ⟨by rfl, ?_⟩) hh ?_
  · rintro w' ⟨c0, -, -⟩
    go_simp
  simp only [Act.put, List.setIfInBounds_toArray, List.set_cons_zero, List.set_cons_succ]
  refine wpAnyH_take (fuel := 11) (i := 4) (oi := ⟨some 37, _, _, _, _, _⟩) (v := .pointer (some ⟨w2.heap.size, 2, none⟩)) rfl (by kernel_rfl) (by kernel_rfl) (by kernel_rfl) (fun _ _ _ h => h) (Or.inl ⟨by rfl, ?_⟩) hh ?_
  · intro w' _
    go_simp
  simp only [Act.put, List.setIfInBounds_toArray, List.set_cons_zero, List.set_cons_succ]
  refine wpAnyH_take (fuel := 10) (i := 5) (oi := ⟨some 38, _, _, _, _, _⟩) (v := .agg (dcells y.wd)) rfl (by kernel_rfl) (by kernel_rfl) (by kernel_rfl) (fun _ _ _ h => h) (Or.inl ⟨by rfl, ?_⟩) hh ?_
  · rintro w' ⟨-, c0, -⟩
    go_simp
  simp only [Act.put, List.setIfInBounds_toArray, List.set_cons_zero, List.set_cons_succ]
  refine wpAnyH_take (fuel := 9) (i := 6) (oi := ⟨some 39, _, _, _, _, _⟩) (v := .agg #[.int .i64 xk, .int .i64 xa, .int .i64 xv]) rfl (by kernel_rfl) (by kernel_rfl) (by kernel_rfl) (fun _ _ _ h => h) (Or.inl ⟨by rfl, ?_⟩) hh ?_
  · rintro w' ⟨-, -, c0⟩
    go_simp
  simp only [Act.put, List.setIfInBounds_toArray, List.set_cons_zero, List.set_cons_succ]
  refine wpAnyH_ready (fuel := 8) (rs := [7, 12]) (by kernel_rfl) (by simp) ?_
  refine AllReadyH.cons (o := ⟨some 40, _, _, _, _, _⟩) rfl (fun P hP => ?_) (AllReadyH.cons (o := ⟨some 11, _, _, _, _, _⟩) rfl (fun P hP => ?_) AllReadyH.nil)
  · go_simp
    refine (HP.out _ _ H3.out).mono ?_
    rintro e w4 ⟨rfl, hb4⟩
    have H4 := Lib.hid (H3.out.step hb4)
    show P _ _
    refine hP.out _ _ (⟨H4.out.kc, H4.out.cells (List.mem_cons_self ..), H4.out.cells (List.mem_cons_of_mem _ (List.mem_cons_self ..))⟩) (fun hh2 => ?_)
    clear hP P hh hb4
    refine wpAnyH_take (fuel := 7) (i := 8) (oi := ⟨some 32, _, _, _, _, _⟩) (v := .tuple #[.agg (dcells d), .int .i64 nn, .int .i64 er]) rfl (by kernel_rfl) (by kernel_rfl) (by kernel_rfl) (fun _ _ _ h => h) (Or.inl ⟨by rfl, ?_⟩) hh2 ?_
    · intro w' _
      go_simp
    simp only [Act.put, List.setIfInBounds_toArray, List.set_cons_zero, List.set_cons_succ]
    refine wpAnyH_take (fuel := 6) (i := 9) (oi := ⟨some 41, _, _, _, _, _⟩) (v := .agg (dcells d)) rfl (by kernel_rfl) (by kernel_rfl) (by kernel_rfl) (fun _ _ _ h => h) (Or.inl ⟨by rfl, ?_⟩) hh2 ?_
    · intro w' _
      go_simp
    simp only [Act.put, List.setIfInBounds_toArray, List.set_cons_zero, List.set_cons_succ]
    refine wpAnyH_take (fuel := 5) (i := 10) (oi := ⟨some 42, _, _, _, _, _⟩) (v := .int .i64 nn) rfl (by kernel_rfl) (by kernel_rfl) (by kernel_rfl) (fun _ _ _ h => h) (Or.inl ⟨by rfl, ?_⟩) hh2 ?_
    · intro w' _
      go_simp
    simp only [Act.put, List.setIfInBounds_toArray, List.set_cons_zero, List.set_cons_succ]
    refine wpAnyH_take (fuel := 4) (i := 11) (oi := ⟨some 43, _, _, _, _, _⟩) (v := .int .i64 er) rfl (by kernel_rfl) (by kernel_rfl) (by kernel_rfl) (fun _ _ _ h => h) (Or.inl ⟨by rfl, ?_⟩) hh2 ?_
    · intro w' _
      go_simp
    simp only [Act.put, List.setIfInBounds_toArray, List.set_cons_zero, List.set_cons_succ]
    refine wpAnyH_ready (fuel := 3) (rs := [12]) (by kernel_rfl) (by simp) ?_
    refine AllReadyH.cons (o := ⟨some 11, _, _, _, _, _⟩) rfl (fun P hP => ?_) AllReadyH.nil
    go_simp
    have H5 := Lib.hid (H4.out.add (.cells #[.int .i64 0, .int .i64 0, .int .i64 0, .int .i64 0, .int .i64 0, .int .i64 0, .int .i64 0, .int .i64 0] 36))
    show P _ _
    refine hP.out _ _ (⟨H5.out.kc, H5.out.cells (List.mem_cons_of_mem _ (List.mem_cons_self ..)), H5.out.cells (List.mem_cons_of_mem _ (List.mem_cons_of_mem _ (List.mem_cons_self ..)))⟩) (fun hh3 => ?_)
    clear hP P hh2
    refine wpAnyH_ready (fuel := 2) (rs := [13]) (by kernel_rfl) (by simp) ?_
    refine AllReadyH.cons (o := ⟨none, _, _, _, _, _⟩) rfl (fun P hP => ?_) AllReadyH.nil
    rw [if_pos (by rfl)]
    refine wp_store_row 36 (.tmp 11) (.tmp 41) rfl w4.heap.size (dcells d) rfl rfl 36 #[.int .i64 0, .int .i64 0, .int .i64 0, .int .i64 0, .int .i64 0, .int .i64 0, .int .i64 0, .int .i64 0] (H5.out.box (List.mem_cons_self ..)) (by kernel_rfl) rfl (by kernel_rfl) ?_
    have H6 := Lib.hid (H5.out.setRow (cs' := dcells d))
    refine hP.out _ _ (⟨H6.out.kc, H6.out.cells (List.mem_cons_of_mem _ (List.mem_cons_self ..)), H6.out.cells (List.mem_cons_of_mem _ (List.mem_cons_of_mem _ (List.mem_cons_self ..)))⟩) (fun hh4 => ?_)
    clear hP P hh3
    simp only [Act.put]
    refine wpAnyH_take (fuel := 1) (i := 14) (oi := ⟨some 12, _, _, _, _, _⟩) (v := .int .i64 nn) rfl (by kernel_rfl) (by kernel_rfl) (by kernel_rfl) (fun _ _ _ h => h) (Or.inl ⟨by rfl, ?_⟩) hh4 ?_
    · intro w' _
      go_simp
    simp only [Act.put, List.setIfInBounds_toArray, List.set_cons_zero, List.set_cons_succ]
    refine wpAnyH_take (fuel := 0) (i := 15) (oi := ⟨some 13, _, _, _, _, _⟩) (v := .int .i64 er) rfl (by kernel_rfl) (by kernel_rfl) (by kernel_rfl) (fun _ _ _ h => h) (Or.inl ⟨by rfl, ?_⟩) hh4 ?_
    · intro w' _
      go_simp
    simp only [Act.put, List.setIfInBounds_toArray, List.set_cons_zero, List.set_cons_succ]
    refine wpAnyH_done (by kernel_rfl) ?_ _
    refine NoPanic.normal ?_
    clear hh4 H5 H4 H3
    generalize World.setRow (World.alloc w4 _) _ _ = w6 at *
    generalize w4.heap.size = m at *
    have hx6 := H6.out.cells (List.mem_cons_of_mem _ (List.mem_cons_of_mem _ (List.mem_cons_self ..)))
    have hy6 := H6.out.cells (List.mem_cons_of_mem _ (List.mem_cons_self ..))
    go_wp2_with fail
    refine (lets_any y _ _).mono ?_
    rintro e w7 ⟨rfl, hb7⟩
    rw [hl]
    have H7 := Lib.hid (H6.out.step hb7)
    clear hb7 hx6 hy6 H6
    have hk7 := H7.out.kc
    have hd7 := H7.out.cells (List.mem_cons_self ..)
    go_wp2_with fail
    go_region_held3 (fun w' => (∀ o, w'.cell? ⟨K.k, o, none⟩ = (kcells c core K)[o]?) ∧ (∀ o, w'.cell? ⟨m, o, none⟩ = (dcells d)[o]?))
      (first | exact ⟨H8.out.kc, H8.out.cells (List.mem_cons_self ..)⟩ | exact ⟨hk7, hd7⟩ | go_keep)
      (first
        | (go_at_call 50; refine ((by first | exact H7.out | exact H7.out.drew : OwnP w0 K c core n s _ _).set line 4 d).mono ?_; rintro e w8 ⟨⟨i8, rfl⟩, ho⟩; have H8 := Lib.hid ho; clear ho))
    go_wp2
    go_ret2
    exact ⟨rfl, H8.out.drop.drop.drop⟩
  · go_simp
    have H4 := Lib.hid (H3.out.add (.cells #[.int .i64 0, .int .i64 0, .int .i64 0, .int .i64 0, .int .i64 0, .int .i64 0, .int .i64 0, .int .i64 0] 36))
    show P _ _
    refine hP.out _ _ (⟨H4.out.kc, H4.out.cells (List.mem_cons_of_mem _ (List.mem_cons_self ..)), H4.out.cells (List.mem_cons_of_mem _ (List.mem_cons_of_mem _ (List.mem_cons_self ..)))⟩) (fun hh2 => ?_)
    clear hP P hh
    refine wpAnyH_ready (fuel := 7) (rs := [7]) (by kernel_rfl) (by simp) ?_
    refine AllReadyH.cons (o := ⟨some 40, _, _, _, _, _⟩) rfl (fun P hP => ?_) AllReadyH.nil
    go_simp
    refine (HP.out _ _ H4.out).mono ?_
    rintro e w4 ⟨rfl, hb4⟩
    have H5 := Lib.hid (H4.out.step hb4)
    show P _ _
    refine hP.out _ _ (⟨H5.out.kc, H5.out.cells (List.mem_cons_of_mem _ (List.mem_cons_self ..)), H5.out.cells (List.mem_cons_of_mem _ (List.mem_cons_of_mem _ (List.mem_cons_self ..)))⟩) (fun hh3 => ?_)
    clear hP P hh2 hb4
    refine wpAnyH_take (fuel := 6) (i := 8) (oi := ⟨some 32, _, _, _, _, _⟩) (v := .tuple #[.agg (dcells d), .int .i64 nn, .int .i64 er]) rfl (by kernel_rfl) (by kernel_rfl) (by kernel_rfl) (fun _ _ _ h => h) (Or.inl ⟨by rfl, ?_⟩) hh3 ?_
    · intro w' _
      go_simp
    simp only [Act.put, List.setIfInBounds_toArray, List.set_cons_zero, List.set_cons_succ]
    refine wpAnyH_take (fuel := 5) (i := 9) (oi := ⟨some 41, _, _, _, _, _⟩) (v := .agg (dcells d)) rfl (by kernel_rfl) (by kernel_rfl) (by kernel_rfl) (fun _ _ _ h => h) (Or.inl ⟨by rfl, ?_⟩) hh3 ?_
    · intro w' _
      go_simp
    simp only [Act.put, List.setIfInBounds_toArray, List.set_cons_zero, List.set_cons_succ]
    refine wpAnyH_take (fuel := 4) (i := 10) (oi := ⟨some 42, _, _, _, _, _⟩) (v := .int .i64 nn) rfl (by kernel_rfl) (by kernel_rfl) (by kernel_rfl) (fun _ _ _ h => h) (Or.inl ⟨by rfl, ?_⟩) hh3 ?_
    · intro w' _
      go_simp
    simp only [Act.put, List.setIfInBounds_toArray, List.set_cons_zero, List.set_cons_succ]
    refine wpAnyH_take (fuel := 3) (i := 11) (oi := ⟨some 43, _, _, _, _, _⟩) (v := .int .i64 er) rfl (by kernel_rfl) (by kernel_rfl) (by kernel_rfl) (fun _ _ _ h => h) (Or.inl ⟨by rfl, ?_⟩) hh3 ?_
    · intro w' _
      go_simp
    simp only [Act.put, List.setIfInBounds_toArray, List.set_cons_zero, List.set_cons_succ]
    refine wpAnyH_ready (fuel := 2) (rs := [13]) (by kernel_rfl) (by simp) ?_
    refine AllReadyH.cons (o := ⟨none, _, _, _, _, _⟩) rfl (fun P hP => ?_) AllReadyH.nil
    rw [if_pos (by rfl)]
    refine wp_store_row 36 (.tmp 11) (.tmp 41) rfl w3.heap.size (dcells d) rfl rfl 36 #[.int .i64 0, .int .i64 0, .int .i64 0, .int .i64 0, .int .i64 0, .int .i64 0, .int .i64 0, .int .i64 0] (H5.out.box (List.mem_cons_self ..)) (by kernel_rfl) rfl (by kernel_rfl) ?_
    have H6 := Lib.hid (H5.out.setRow (cs' := dcells d))
    refine hP.out _ _ (⟨H6.out.kc, H6.out.cells (List.mem_cons_of_mem _ (List.mem_cons_self ..)), H6.out.cells (List.mem_cons_of_mem _ (List.mem_cons_of_mem _ (List.mem_cons_self ..)))⟩) (fun hh4 => ?_)
    clear hP P hh3
    simp only [Act.put]
    refine wpAnyH_take (fuel := 1) (i := 14) (oi := ⟨some 12, _, _, _, _, _⟩) (v := .int .i64 nn) rfl (by kernel_rfl) (by kernel_rfl) (by kernel_rfl) (fun _ _ _ h => h) (Or.inl ⟨by rfl, ?_⟩) hh4 ?_
    · intro w' _
      go_simp
    simp only [Act.put, List.setIfInBounds_toArray, List.set_cons_zero, List.set_cons_succ]
    refine wpAnyH_take (fuel := 0) (i := 15) (oi := ⟨some 13, _, _, _, _, _⟩) (v := .int .i64 er) rfl (by kernel_rfl) (by kernel_rfl) (by kernel_rfl) (fun _ _ _ h => h) (Or.inl ⟨by rfl, ?_⟩) hh4 ?_
    · intro w' _
      go_simp
    simp only [Act.put, List.setIfInBounds_toArray, List.set_cons_zero, List.set_cons_succ]
    refine wpAnyH_done (by kernel_rfl) ?_ _
    refine NoPanic.normal ?_
    clear hh4 H5 H4 H3
    generalize World.setRow w4 _ _ = w6 at *
    generalize w3.heap.size = m at *
    have hx6 := H6.out.cells (List.mem_cons_of_mem _ (List.mem_cons_of_mem _ (List.mem_cons_self ..)))
    have hy6 := H6.out.cells (List.mem_cons_of_mem _ (List.mem_cons_self ..))
    go_wp2_with fail
    refine (lets_any y _ _).mono ?_
    rintro e w7 ⟨rfl, hb7⟩
    rw [hl]
    have H7 := Lib.hid (H6.out.step hb7)
    clear hb7 hx6 hy6 H6
    have hk7 := H7.out.kc
    have hd7 := H7.out.cells (List.mem_cons_self ..)
    go_wp2_with fail
    go_region_held3 (fun w' => (∀ o, w'.cell? ⟨K.k, o, none⟩ = (kcells c core K)[o]?) ∧ (∀ o, w'.cell? ⟨m, o, none⟩ = (dcells d)[o]?))
      (first | exact ⟨H8.out.kc, H8.out.cells (List.mem_cons_self ..)⟩ | exact ⟨hk7, hd7⟩ | go_keep)
      (first
        | (go_at_call 50; refine ((by first | exact H7.out | exact H7.out.drew : OwnP w0 K c core n s _ _).set line 4 d).mono ?_; rintro e w8 ⟨⟨i8, rfl⟩, ho⟩; have H8 := Lib.hid ho; clear ho))
    go_wp2
    go_ret2
    exact ⟨rfl, H8.out.drop.drop.drop⟩

/-- Do. -/
theorem Own.doX (h : OwnP w0 K c core n s bx w) (x : Pg.Op) :
    Calls Tryz.prog 20 #[ptr K.k, Pg.ov x] w fun e w' => e = .returned (.tuple #[.int .i64 (doP c s x).1.1, .int .i64 (doP c s x).1.2]) ∧ OwnP w0 K c core n (doP c s x).2 bx w' := by
  obtain ⟨xk, xa, xv⟩ := x
  unfold doP
  rcases hap : Me.apP c (Go.Proofs.YtlfhkjjjocmpbaaGreatDoor.Cc.look c s (adL c xa)).wd ⟨xk, xa, xv⟩ with ⟨d, nn, er⟩
  by_cases e1 : er = 0
  · simp only [hap, if_neg (show ¬ er ≠ 0 from fun q => q e1)]
    have b1 : (er != 0) = false := by simpa using e1
    rcases Bool.eq_false_or_eq_true (letsB (Go.Proofs.YtlfhkjjjocmpbaaGreatDoor.Cc.look c s (adL c xa)) (xk != 1)) with hl | hl
    · rw [if_neg (show ¬ letsB (Go.Proofs.YtlfhkjjjocmpbaaGreatDoor.Cc.look c s (adL c xa)) (xk != 1) = false by simp [hl])]
      rcases Bool.eq_false_or_eq_true (xk != 1) with k1 | k1
      · rw [k1] at hl
        rw [if_pos k1]
        exact do_set h xk xa xv hap b1 k1 hl
      · rw [k1] at hl
        rw [if_neg (show ¬ (xk != 1) = true by simp [k1])]
        exact do_load h xk xa xv hap b1 k1 hl
    · rw [if_pos hl]
      exact do_lets h xk xa xv hap b1 hl
  · simp only [hap, if_pos e1]
    exact do_err h xk xa xv hap (by simpa using e1)

end Go.Proofs.YtlfhkjjjocmpbaaGreatDoor.Cc
