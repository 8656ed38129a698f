/-
  The document's Next: GetS.
-/
import Derived.Test.YtfnemldjhfcalaaTbT
namespace Go.Proofs.Ytfnemldjhfcalaa
open Go Go.RowKit Go.Sort

set_option maxRecDepth 100000 in
set_option maxHeartbeats 16000000 in
theorem rnext_fwdS (e : En) (p : Option Addr) (cap : Nat) (m : Msg) (v : W8) (w : World) (hl : e.s.l.length ≤ 5000) (hn : NumsIn w p e.s.l) (hg : goodQ e m = true) (hk : m.kd = 1) (h1 : 0 ≤ e.ow) (h2 : e.ow ≠ m.fr) :
    Calls Try.prog 10 #[ev e p cap, mv m, .agg (wcells v)] w (GaveT2 w (nextT e m v).1 (nextT e m v).2 p e.s.l) := by
  have B0 := Bx.four w (ecells e p cap) (mcells m) (wcells v) ztc 37 30 28 46
  have HN := Lib.hid hn
  obtain ⟨g1, g2, g3⟩ := good_all hg
  obtain ⟨s1, s2, s3⟩ := may_parts g1
  have HM := Lib.hid g1
  have ha : addS e.s m.fr = (withS e.s m.fr, 0) := by unfold addS; rw [if_pos s1, if_pos g3]
  have HA := Lib.hid ha
  have k1 : decide (m.kd < 1) = false := by simp [isReq] at g2; simp; omega
  have k2 : decide (3 < m.kd) = false := by simp [isReq] at g2; simp; omega
  obtain ⟨r1, r2⟩ := hasB_iff.1 g3
  have k3 : decide (m.fr < 0) = false := by simp; omega
  have k4 : decide (e.s.c ≤ m.fr) = false := by simp; omega
  have q1 : (m.kd == 1) = true := by simpa using hk
  have q2 : (e.ow == m.fr) = false := by simpa using h2
  have q3 : decide (0 ≤ e.ow) = true := by simpa using h1
  have HRES : Hid (nextT e m v = (⟨⟨e.ow, withS e.s m.fr⟩, [⟨4, m.ln, m.to, e.ow, m.fr, 0, 0, 0, 0, 0, 0, 0, 0, 0, 0⟩], false⟩, 0)) := Lib.hid (by
    have hf : e.free = false := by simp [En.free]; omega
    unfold nextT shareT
    rw [if_neg (not_bad hg), if_pos hk, if_neg (by omega), if_neg h2, if_neg (by rw [hf]; simp), add_fine s1 g3]
    rfl)
  clear hn hg g1 g2 g3 s1 s2 s3 ha r1 r2 hk h1 h2
  go_enter Try.func10, Try.ntmps10
  go_wp2_with (first
    | (go_at_call 14; refine (rmay_is HM.out p cap _ (by omega) (HN.out.step B0.below)).mono ?_; rintro _ w1 ⟨rfl, hb1⟩; have B1 := B0.step hb1; have hcE := B1.cells (.tail _ (.tail _ (.tail _ (.head _)))); have hcM := B1.cells (.tail _ (.tail _ (.head _))); clear hb1; have l0 : w.heap.size < w1.heap.size := lt_of_block (B1.box _ (.tail _ (.tail _ (.tail _ (.head _))))); have l1 : w.heap.size + 1 < w1.heap.size := lt_of_block (B1.box _ (.tail _ (.tail _ (.head _)))); have B2 := B1.add zw 28; have B3 := B2.addAt (sv e.s.c e.s.m none 0 0 false) 35 (w1.heap.size + 1) (by simp))
    | (go_at_call 23; refine (radd_is HA.out p cap _ (HN.out.step B3.below) hl).mono ?_; rintro _ w4 ⟨pa, ca, rfl, hi4, hb4, ho4⟩; have B4 := B3.step hb4; generalize withS e.s m.fr = s' at *; have B5 := B4.addAt (sval s' pa ca) 35 w4.heap.size rfl; have HPA := Lib.hid (hi4.step (balloc w4 (.cells (sval s' pa ca) 35))); have hz5 : (w4.alloc (.cells (sval s' pa ca) 35)).heap.size = w4.heap.size + 1 := (by simp); have hgz : w.heap.size + 1 + 1 + 1 < w1.heap.size := lt_of_block (B1.box _ (.head _)); have hga : w.heap.size + 1 + 1 + 1 < w4.heap.size := lt_of_block (B4.box _ (.tail _ (.tail _ (.head _)))); have HPF := Lib.hid (apart_row (r := w.heap.size + 1 + 1 + 1) HN.out ho4 (by omega) (by simp; omega)); have HPO := Lib.hid (old_or ho4 B3.below.size); clear hb4 hi4 ho4 hcE hcM l0 l1 B0 B1 B2 B3 B4 HA; generalize w1.heap.size = gz at *; have hcE := B5.cells (.tail _ (.tail _ (.tail _ (.tail _ (.tail _ (.tail _ (.head _))))))); have hcM := B5.cells (.tail _ (.tail _ (.tail _ (.tail _ (.tail _ (.head _)))))); have hcW := B5.cells (.tail _ (.tail _ (.tail _ (.tail _ (.head _))))); have hcZ := B5.cells (.tail _ (.tail _ (.head _))); have hcC := B5.cells (.tail _ (.head _)); have hcA := B5.cells (.head _)))
  generalize World.alloc w4 _ = w5 at *
  generalize w4.heap.size = ga at *
  have B6 := B5.step (below_drew _)
  refine wp_region_noPanic ?_
  refine wp_region_held_drew (S := fun w' => (∀ o, w'.cell? ⟨w.heap.size, o, none⟩ = (ecells e p cap)[o]?) ∧ (∀ o, w'.cell? ⟨w.heap.size + 1, o, none⟩ = (mcells m)[o]?) ∧ (∀ o, w'.cell? ⟨w.heap.size + 1 + 1, o, none⟩ = (wcells v)[o]?) ∧ (∀ o, w'.cell? ⟨gz, o, none⟩ = zw[o]?) ∧ (∀ o, w'.cell? ⟨gz + 1, o, none⟩ = (sv e.s.c e.s.m none 0 0 false)[o]?) ∧ (∀ o, w'.cell? ⟨ga, o, none⟩ = (sval s' pa ca)[o]?)) (by kernel_rfl) B6.six (fun hh => ?_)
  refine wpAnyH_take (fuel := 13) (i := 0) (oi := ⟨some 80, _, _, _, _, _⟩) (v := .pointer (some ⟨w.heap.size, 0, none⟩)) rfl (by kernel_rfl) (by kernel_rfl) (by kernel_rfl) (fun _ _ _ h => h) (Or.inl ⟨by rfl, ?_⟩) hh ?_
  · rintro w' ⟨cE, cM, cW, cZ, cC, cA⟩
    go_simp
  simp only [Act.put, List.setIfInBounds_toArray, List.set_cons_zero, List.set_cons_succ]
  refine wpAnyH_take (fuel := 12) (i := 1) (oi := ⟨some 81, _, _, _, _, _⟩) (v := .int .i64 e.ow) rfl (by kernel_rfl) (by kernel_rfl) (by kernel_rfl) (fun _ _ _ h => h) (Or.inl ⟨by rfl, ?_⟩) hh ?_
  · rintro w' ⟨cE, cM, cW, cZ, cC, cA⟩
    go_simp
  simp only [Act.put, List.setIfInBounds_toArray, List.set_cons_zero, List.set_cons_succ]
  refine wpAnyH_take (fuel := 11) (i := 2) (oi := ⟨some 82, _, _, _, _, _⟩) (v := .agg (sval s' pa ca)) rfl (by kernel_rfl) (by kernel_rfl) (by kernel_rfl) (fun _ _ _ h => h) (Or.inl ⟨by rfl, ?_⟩) hh ?_
  · rintro w' ⟨cE, cM, cW, cZ, cC, cA⟩
    go_simp
  simp only [Act.put, List.setIfInBounds_toArray, List.set_cons_zero, List.set_cons_succ]
  refine wpAnyH_take (fuel := 10) (i := 3) (oi := ⟨some 83, _, _, _, _, _⟩) (v := .agg #[.int .i64 e.ow, .int .i64 s'.c, .int .i64 s'.m, .slice pa s'.l.length ca, .bool s'.al]) rfl (by kernel_rfl) (by kernel_rfl) (by kernel_rfl) (fun _ _ _ h => h) (Or.inl ⟨by rfl, ?_⟩) hh ?_
  · rintro w' ⟨cE, cM, cW, cZ, cC, cA⟩
    go_simp
  simp only [Act.put, List.setIfInBounds_toArray, List.set_cons_zero, List.set_cons_succ]
  refine wpAnyH_take (fuel := 9) (i := 4) (oi := ⟨some 84, _, _, _, _, _⟩) (v := .agg (mcells m)) rfl (by kernel_rfl) (by kernel_rfl) (by kernel_rfl) (fun _ _ _ h => h) (yields_load_at (by rfl) 30 (.tmp 4) rfl (w.heap.size + 1) 0 rfl (mcells m) _ (fun w' ⟨_, c0, _⟩ => range_of c0) Try.underlying30 rfl (by kernel_rfl)) hh ?_
  simp only [Act.put, List.setIfInBounds_toArray, List.set_cons_zero, List.set_cons_succ]
  refine wpAnyH_take (fuel := 8) (i := 5) (oi := ⟨some 85, _, _, _, _, _⟩) (v := .pointer (some ⟨w.heap.size, 0, none⟩)) rfl (by kernel_rfl) (by kernel_rfl) (by kernel_rfl) (fun _ _ _ h => h) (Or.inl ⟨by rfl, ?_⟩) hh ?_
  · rintro w' ⟨cE, cM, cW, cZ, cC, cA⟩
    go_simp
  simp only [Act.put, List.setIfInBounds_toArray, List.set_cons_zero, List.set_cons_succ]
  refine wpAnyH_take (fuel := 7) (i := 6) (oi := ⟨some 86, _, _, _, _, _⟩) (v := .int .i64 e.ow) rfl (by kernel_rfl) (by kernel_rfl) (by kernel_rfl) (fun _ _ _ h => h) (Or.inl ⟨by rfl, ?_⟩) hh ?_
  · rintro w' ⟨cE, cM, cW, cZ, cC, cA⟩
    go_simp
  simp only [Act.put, List.setIfInBounds_toArray, List.set_cons_zero, List.set_cons_succ]
  refine wpAnyH_take (fuel := 6) (i := 7) (oi := ⟨some 87, _, _, _, _, _⟩) (v := .int .i64 m.fr) rfl (by kernel_rfl) (by kernel_rfl) (by kernel_rfl) (fun _ _ _ h => h) (Or.inl ⟨by rfl, ?_⟩) hh ?_
  · rintro w' ⟨cE, cM, cW, cZ, cC, cA⟩
    go_simp
  simp only [Act.put, List.setIfInBounds_toArray, List.set_cons_zero, List.set_cons_succ]
  refine wpAnyH_take (fuel := 5) (i := 8) (oi := ⟨some 88, _, _, _, _, _⟩) (v := .agg zw) rfl (by kernel_rfl) (by kernel_rfl) (by kernel_rfl) (fun _ _ _ h => h) (Or.inl ⟨by rfl, ?_⟩) hh ?_
  · rintro w' ⟨cE, cM, cW, cZ, cC, cA⟩
    go_simp
  simp only [Act.put, List.setIfInBounds_toArray, List.set_cons_zero, List.set_cons_succ]
  refine wpAnyH_ready (fuel := 4) (rs := [9]) (by kernel_rfl) (by simp) ?_
  refine AllReadyH.cons (o := ⟨some 89, _, _, _, _, _⟩) rfl (fun K hK => ?_) AllReadyH.nil
  go_simp
  refine (rmsg_any m 4 e.ow m.fr 0 0 w0 _).mono ?_
  rintro _ w7 ⟨rfl, hb7⟩
  have B7 := B6.step hb7
  show K _ _
  refine hK.out _ _ (B7.six) (fun hh2 => ?_)
  clear hK K hh
  try simp only [Act.put, List.setIfInBounds_toArray, List.set_cons_zero, List.set_cons_succ]
  refine wpAnyH_ready (fuel := 3) (rs := [10]) (by kernel_rfl) (by simp) ?_
  refine AllReadyH.cons (o := ⟨some 90, _, _, _, _, _⟩) rfl (fun K hK => ?_) AllReadyH.nil
  go_simp
  have hb8 := balloc w7 (.cells (rcells m 4 e.ow m.fr 0 0 w0) 30)
  have B8 := B7.step hb8
  have HM8 := Lib.hid (MsIn.lit (w := w7) (L := [⟨4, m.ln, m.to, e.ow, m.fr, 0, 0, 0, 0, 0, 0, 0, 0, 0, 0⟩]) (A := rcells m 4 e.ow m.fr 0 0 w0) 30 rfl)
  show K _ _
  refine hK.out _ _ B8.six (fun hh3 => ?_)
  clear hK K hh2
  try simp only [Act.put, List.setIfInBounds_toArray, List.set_cons_zero, List.set_cons_succ]
  refine wpAnyH_take (fuel := 2) (i := 11) (oi := ⟨some 91, _, _, _, _, _⟩) (v := .agg #[.int .i64 e.ow, .int .i64 s'.c, .int .i64 s'.m, .slice pa s'.l.length ca, .bool s'.al, .slice (some ⟨w7.heap.size, 0, none⟩) 1 1, .bool false]) rfl (by kernel_rfl) (by kernel_rfl) (by kernel_rfl) (fun _ _ _ h => h) (Or.inl ⟨by rfl, ?_⟩) hh3 ?_
  · rintro w' ⟨cE, cM, cW, cZ, cC, cA⟩
    go_simp
  simp only [Act.put, List.setIfInBounds_toArray, List.set_cons_zero, List.set_cons_succ]
  refine wpAnyH_ready (fuel := 1) (rs := [12]) (by kernel_rfl) (by simp) ?_
  refine AllReadyH.cons (o := ⟨none, _, _, _, _, _⟩) rfl (fun K hK => ?_) AllReadyH.nil
  rw [if_pos (by rfl)]
  refine wp_store_row 46 (.tmp 6) (.tmp 91) rfl (w.heap.size + 1 + 1 + 1) (#[.int .i64 e.ow, .int .i64 s'.c, .int .i64 s'.m, .slice pa s'.l.length ca, .bool s'.al, .slice (some ⟨w7.heap.size, 0, none⟩) 1 1, .bool false]) rfl rfl 46 ztc (B8.box _ (.tail _ (.tail _ (.tail _ (.head _))))) (by kernel_rfl) rfl (by kernel_rfl) ?_
  have HS9 := six_row B8.six hgz hga (#[.int .i64 e.ow, .int .i64 s'.c, .int .i64 s'.m, .slice pa s'.l.length ca, .bool s'.al, .slice (some ⟨w7.heap.size, 0, none⟩) 1 1, .bool false])
  have HC9 := Lib.hid (setRow_heap _ (w.heap.size + 1 + 1 + 1) _ (#[.int .i64 e.ow, .int .i64 s'.c, .int .i64 s'.m, .slice pa s'.l.length ca, .bool s'.al, .slice (some ⟨w7.heap.size, 0, none⟩) 1 1, .bool false]) 46 (0, 0) (B8.box _ (.tail _ (.tail _ (.tail _ (.head _))))))
  have HB9 := Lib.hid (below_setRow B8.below (show w.heap.size ≤ w.heap.size + 1 + 1 + 1 by omega) (#[.int .i64 e.ow, .int .i64 s'.c, .int .i64 s'.m, .slice pa s'.l.length ca, .bool s'.al, .slice (some ⟨w7.heap.size, 0, none⟩) 1 1, .bool false]))
  have HM9 := Lib.hid (HM8.out.rowOf (w.heap.size + 1 + 1 + 1) (by have := B7.box _ (.tail _ (.tail _ (.tail _ (.head _)))); have := lt_of_block this; simp only at this; omega) (#[.int .i64 e.ow, .int .i64 s'.c, .int .i64 s'.m, .slice pa s'.l.length ca, .bool s'.al, .slice (some ⟨w7.heap.size, 0, none⟩) 1 1, .bool false]))
  have HN9 := Lib.hid (((HPA.out.step (below_drew _)).step hb7).step hb8 |>.rowN (w.heap.size + 1 + 1 + 1) HPF.out (#[.int .i64 e.ow, .int .i64 s'.c, .int .i64 s'.m, .slice pa s'.l.length ca, .bool s'.al, .slice (some ⟨w7.heap.size, 0, none⟩) 1 1, .bool false]))
  refine hK.out _ _ (HS9) (fun hh4 => ?_)
  clear hK K hh3
  simp only [Act.put]
  refine wpAnyH_take (fuel := 0) (i := 13) (oi := ⟨some 7, _, _, _, _, _⟩) (v := .int .i64 0) rfl (by kernel_rfl) (by kernel_rfl) (by kernel_rfl) (fun _ _ _ h => h) (Or.inl ⟨by rfl, ?_⟩) hh4 ?_
  · rintro w' ⟨cE, cM, cW, cZ, cC, cA⟩
    go_simp
  simp only [Act.put, List.setIfInBounds_toArray, List.set_cons_zero, List.set_cons_succ]
  refine wpAnyH_done (by kernel_rfl) ?_ _
  refine NoPanic.normal ?_
  clear hh4
  clear HS9 B6 B7 B8 hb7 hb8 HM8 hcE hcM hcW hcZ hcC hcA B5
  generalize World.setRow _ _ _ = w9 at HC9 HB9 HM9 HN9 ⊢
  go_wp2_with fail
  rw [HRES.out]
  exact turnR_ret (t := ⟨⟨e.ow, s'⟩, [⟨4, m.ln, m.to, e.ow, m.fr, 0, 0, 0, 0, 0, 0, 0, 0, 0, 0⟩], false⟩) (p := pa) (cap := ca) (q := some ⟨w7.heap.size, 0, none⟩) (qc := 1) Try.results10 rfl rfl rfl HC9.out HN9.out HM9.out HB9.out _ _ HPO.out

set_option maxRecDepth 100000 in
set_option maxHeartbeats 16000000 in
theorem rnext_excl (e : En) (p : Option Addr) (cap : Nat) (m : Msg) (v : W8) (w : World) (hl : e.s.l.length ≤ 5000) (hn : NumsIn w p e.s.l) (hg : goodQ e m = true) (hk : m.kd = 1) (h1 : e.ow = -1) (hf : e.free = true) :
    Calls Try.prog 10 #[ev e p cap, mv m, .agg (wcells v)] w (GaveT2 w (nextT e m v).1 (nextT e m v).2 p e.s.l) := by
  have B0 := Bx.four w (ecells e p cap) (mcells m) (wcells v) ztc 37 30 28 46
  have HN := Lib.hid hn
  obtain ⟨g1, g2, g3⟩ := good_all hg
  obtain ⟨s1, s2, s3⟩ := may_parts g1
  have HM := Lib.hid g1
  have ha : addS e.s m.fr = (withS e.s m.fr, 0) := by unfold addS; rw [if_pos s1, if_pos g3]
  have HA := Lib.hid ha
  have k1 : decide (m.kd < 1) = false := by simp [isReq] at g2; simp; omega
  have k2 : decide (3 < m.kd) = false := by simp [isReq] at g2; simp; omega
  obtain ⟨r1, r2⟩ := hasB_iff.1 g3
  have k3 : decide (m.fr < 0) = false := by simp; omega
  have k4 : decide (e.s.c ≤ m.fr) = false := by simp; omega
  have q1 : (m.kd == 1) = true := by simpa using hk
  have q2 : (e.ow == m.fr) = false := by simp; omega
  have q3 : decide (0 ≤ e.ow) = false := by simp; omega
  have HS1 := Lib.hid s1
  have q4 : (((targetsS e.s []).length : Int) == 0) = true := by
    have := hf
    simp only [En.free, h1, beq_self_eq_true, Bool.true_and] at this
    exact this
  have HRES : Hid (nextT e m v = (⟨⟨m.fr, ⟨e.s.c, e.s.m, [], false⟩⟩, [⟨7, m.ln, m.to, m.fr, 0, 0, 2, v.w0, v.w1, v.w2, v.w3, v.w4, v.w5, v.w6, v.w7⟩], false⟩, 0)) := Lib.hid (by
    have h5 : (St.mk e.s.c e.s.m [] false) = e.s := (free_fine s1 hf).2.symm
    have hr : readM e m v = ⟨7, 0, 0, m.fr, 0, 0, 2, v.w0, v.w1, v.w2, v.w3, v.w4, v.w5, v.w6, v.w7⟩ := by simp [readM, fullM, hf]
    unfold nextT shareT
    rw [if_neg (not_bad hg), if_pos hk, if_pos h1, if_pos hf, hr, h5]
    rfl)
  clear hn hg g1 g2 g3 s1 s2 s3 ha r1 r2 hk h1 hf
  go_enter Try.func10, Try.ntmps10
  go_wp2_with (first
    | (go_at_call 14; refine (rmay_is HM.out p cap _ (by omega) (HN.out.step B0.below)).mono ?_; rintro _ w1 ⟨rfl, hb1⟩; have B1 := B0.step hb1; have hcE := B1.cells (.tail _ (.tail _ (.tail _ (.head _)))); have hcM := B1.cells (.tail _ (.tail _ (.head _))); clear hb1; have l0 : w.heap.size < w1.heap.size := lt_of_block (B1.box _ (.tail _ (.tail _ (.tail _ (.head _))))); have l1 : w.heap.size + 1 < w1.heap.size := lt_of_block (B1.box _ (.tail _ (.tail _ (.head _)))); have B2 := B1.add zw 28; have B3 := B2.addAt (sv e.s.c e.s.m none 0 0 false) 35 (w1.heap.size + 1) (by simp))
    | (go_at_call 23; refine (radd_is HA.out p cap _ (HN.out.step B3.below) hl).mono ?_; rintro _ w4 ⟨pa, ca, rfl, hi4, hb4, ho4⟩; have B4 := B3.step hb4; generalize withS e.s m.fr = s' at *; have B5 := B4.addAt (sval s' pa ca) 35 w4.heap.size rfl; have HPA := Lib.hid (hi4.step (balloc w4 (.cells (sval s' pa ca) 35))); have hz5 : (w4.alloc (.cells (sval s' pa ca) 35)).heap.size = w4.heap.size + 1 := (by simp); have hgz : w.heap.size + 1 + 1 + 1 < w1.heap.size := lt_of_block (B1.box _ (.head _)); have hga : w.heap.size + 1 + 1 + 1 < w4.heap.size := lt_of_block (B4.box _ (.tail _ (.tail _ (.head _)))); have HPF := Lib.hid (apart_row (r := w.heap.size + 1 + 1 + 1) HN.out ho4 (by omega) (by simp; omega)); have HPO := Lib.hid (old_or ho4 B3.below.size); clear hb4 hi4 ho4 hcE hcM l0 l1 B0 B1 B2 B3 B4 HA; generalize w1.heap.size = gz at *; have hcE := B5.cells (.tail _ (.tail _ (.tail _ (.tail _ (.tail _ (.tail _ (.head _))))))); have hcM := B5.cells (.tail _ (.tail _ (.tail _ (.tail _ (.tail _ (.head _)))))); have hcW := B5.cells (.tail _ (.tail _ (.tail _ (.tail _ (.head _))))); have hcZ := B5.cells (.tail _ (.tail _ (.head _))); have hcC := B5.cells (.tail _ (.head _)); have hcA := B5.cells (.head _)))
  generalize World.alloc w4 _ = w5 at *
  generalize w4.heap.size = ga at *
  refine (rtargets_is HS1.out p cap _ 0 [] _ (HN.out.step (bstep B5.below (balloc w5 (.cells #[] 3)))) (NumsIn.nil _ _) hl (by simp)).mono ?_
  rintro _ w6 ⟨pt, ct, rfl, -, hb6⟩
  replace B5 := (B5.step (balloc w5 (.cells #[] 3))).step hb6
  replace HPA := Lib.hid ((HPA.out.step (balloc w5 (.cells #[] 3))).step hb6)
  clear hb6
  replace hcE := B5.cells (.tail _ (.tail _ (.tail _ (.tail _ (.tail _ (.tail _ (.head _))))))); replace hcM := B5.cells (.tail _ (.tail _ (.tail _ (.tail _ (.tail _ (.head _)))))); replace hcW := B5.cells (.tail _ (.tail _ (.tail _ (.tail _ (.head _))))); replace hcZ := B5.cells (.tail _ (.tail _ (.head _))); replace hcC := B5.cells (.tail _ (.head _)); replace hcA := B5.cells (.head _)
  go_wp2_with fail
  have B6 := B5.step (below_drew _)
  refine wp_region_noPanic ?_
  refine wp_region_held_drew (S := fun w' => (∀ o, w'.cell? ⟨w.heap.size, o, none⟩ = (ecells e p cap)[o]?) ∧ (∀ o, w'.cell? ⟨w.heap.size + 1, o, none⟩ = (mcells m)[o]?) ∧ (∀ o, w'.cell? ⟨w.heap.size + 1 + 1, o, none⟩ = (wcells v)[o]?) ∧ (∀ o, w'.cell? ⟨gz, o, none⟩ = zw[o]?) ∧ (∀ o, w'.cell? ⟨gz + 1, o, none⟩ = (sv e.s.c e.s.m none 0 0 false)[o]?) ∧ (∀ o, w'.cell? ⟨ga, o, none⟩ = (sval s' pa ca)[o]?)) (by kernel_rfl) B6.six (fun hh => ?_)
  refine wpAnyH_take (fuel := 10) (i := 0) (oi := ⟨some 103, _, _, _, _, _⟩) (v := .int .i64 m.fr) rfl (by kernel_rfl) (by kernel_rfl) (by kernel_rfl) (fun _ _ _ h => h) (Or.inl ⟨by rfl, ?_⟩) hh ?_
  · rintro w' ⟨cE, cM, cW, cZ, cC, cA⟩
    go_simp
  simp only [Act.put, List.setIfInBounds_toArray, List.set_cons_zero, List.set_cons_succ]
  refine wpAnyH_take (fuel := 9) (i := 1) (oi := ⟨some 104, _, _, _, _, _⟩) (v := .agg (sv e.s.c e.s.m none 0 0 false)) rfl (by kernel_rfl) (by kernel_rfl) (by kernel_rfl) (fun _ _ _ h => h) (Or.inl ⟨by rfl, ?_⟩) hh ?_
  · rintro w' ⟨cE, cM, cW, cZ, cC, cA⟩
    go_simp
  simp only [Act.put, List.setIfInBounds_toArray, List.set_cons_zero, List.set_cons_succ]
  refine wpAnyH_take (fuel := 8) (i := 2) (oi := ⟨some 105, _, _, _, _, _⟩) (v := .agg #[.int .i64 m.fr, .int .i64 e.s.c, .int .i64 e.s.m, .slice none 0 0, .bool false]) rfl (by kernel_rfl) (by kernel_rfl) (by kernel_rfl) (fun _ _ _ h => h) (Or.inl ⟨by rfl, ?_⟩) hh ?_
  · rintro w' ⟨cE, cM, cW, cZ, cC, cA⟩
    go_simp
  simp only [Act.put, List.setIfInBounds_toArray, List.set_cons_zero, List.set_cons_succ]
  refine wpAnyH_take (fuel := 7) (i := 3) (oi := ⟨some 106, _, _, _, _, _⟩) (v := .agg (mcells m)) rfl (by kernel_rfl) (by kernel_rfl) (by kernel_rfl) (fun _ _ _ h => h) (yields_load_at (by rfl) 30 (.tmp 4) rfl (w.heap.size + 1) 0 rfl (mcells m) _ (fun w' ⟨_, c0, _⟩ => range_of c0) Try.underlying30 rfl (by kernel_rfl)) hh ?_
  simp only [Act.put, List.setIfInBounds_toArray, List.set_cons_zero, List.set_cons_succ]
  refine wpAnyH_take (fuel := 6) (i := 4) (oi := ⟨some 107, _, _, _, _, _⟩) (v := .int .i64 m.fr) rfl (by kernel_rfl) (by kernel_rfl) (by kernel_rfl) (fun _ _ _ h => h) (Or.inl ⟨by rfl, ?_⟩) hh ?_
  · rintro w' ⟨cE, cM, cW, cZ, cC, cA⟩
    go_simp
  simp only [Act.put, List.setIfInBounds_toArray, List.set_cons_zero, List.set_cons_succ]
  refine wpAnyH_take (fuel := 5) (i := 5) (oi := ⟨some 108, _, _, _, _, _⟩) (v := .agg (wcells v)) rfl (by kernel_rfl) (by kernel_rfl) (by kernel_rfl) (fun _ _ _ h => h) (Or.inl ⟨by rfl, ?_⟩) hh ?_
  · rintro w' ⟨cE, cM, cW, cZ, cC, cA⟩
    go_simp
  simp only [Act.put, List.setIfInBounds_toArray, List.set_cons_zero, List.set_cons_succ]
  refine wpAnyH_ready (fuel := 4) (rs := [6]) (by kernel_rfl) (by simp) ?_
  refine AllReadyH.cons (o := ⟨some 109, _, _, _, _, _⟩) rfl (fun K hK => ?_) AllReadyH.nil
  go_simp
  refine (rmsg_any m 7 m.fr 0 0 2 v _).mono ?_
  rintro _ w7 ⟨rfl, hb7⟩
  have B7 := B6.step hb7
  show K _ _
  refine hK.out _ _ (B7.six) (fun hh2 => ?_)
  clear hK K hh
  try simp only [Act.put, List.setIfInBounds_toArray, List.set_cons_zero, List.set_cons_succ]
  refine wpAnyH_ready (fuel := 3) (rs := [7]) (by kernel_rfl) (by simp) ?_
  refine AllReadyH.cons (o := ⟨some 110, _, _, _, _, _⟩) rfl (fun K hK => ?_) AllReadyH.nil
  go_simp
  have hb8 := balloc w7 (.cells (rcells m 7 m.fr 0 0 2 v) 30)
  have B8 := B7.step hb8
  have HM8 := Lib.hid (MsIn.lit (w := w7) (L := [⟨7, m.ln, m.to, m.fr, 0, 0, 2, v.w0, v.w1, v.w2, v.w3, v.w4, v.w5, v.w6, v.w7⟩]) (A := rcells m 7 m.fr 0 0 2 v) 30 rfl)
  show K _ _
  refine hK.out _ _ B8.six (fun hh3 => ?_)
  clear hK K hh2
  try simp only [Act.put, List.setIfInBounds_toArray, List.set_cons_zero, List.set_cons_succ]
  refine wpAnyH_take (fuel := 2) (i := 8) (oi := ⟨some 111, _, _, _, _, _⟩) (v := .agg #[.int .i64 m.fr, .int .i64 e.s.c, .int .i64 e.s.m, .slice none 0 0, .bool false, .slice (some ⟨w7.heap.size, 0, none⟩) 1 1, .bool false]) rfl (by kernel_rfl) (by kernel_rfl) (by kernel_rfl) (fun _ _ _ h => h) (Or.inl ⟨by rfl, ?_⟩) hh3 ?_
  · rintro w' ⟨cE, cM, cW, cZ, cC, cA⟩
    go_simp
  simp only [Act.put, List.setIfInBounds_toArray, List.set_cons_zero, List.set_cons_succ]
  refine wpAnyH_ready (fuel := 1) (rs := [9]) (by kernel_rfl) (by simp) ?_
  refine AllReadyH.cons (o := ⟨none, _, _, _, _, _⟩) rfl (fun K hK => ?_) AllReadyH.nil
  rw [if_pos (by rfl)]
  refine wp_store_row 46 (.tmp 6) (.tmp 111) rfl (w.heap.size + 1 + 1 + 1) (#[.int .i64 m.fr, .int .i64 e.s.c, .int .i64 e.s.m, .slice none 0 0, .bool false, .slice (some ⟨w7.heap.size, 0, none⟩) 1 1, .bool false]) rfl rfl 46 ztc (B8.box _ (.tail _ (.tail _ (.tail _ (.head _))))) (by kernel_rfl) rfl (by kernel_rfl) ?_
  have HS9 := six_row B8.six hgz hga (#[.int .i64 m.fr, .int .i64 e.s.c, .int .i64 e.s.m, .slice none 0 0, .bool false, .slice (some ⟨w7.heap.size, 0, none⟩) 1 1, .bool false])
  have HC9 := Lib.hid (setRow_heap _ (w.heap.size + 1 + 1 + 1) _ (#[.int .i64 m.fr, .int .i64 e.s.c, .int .i64 e.s.m, .slice none 0 0, .bool false, .slice (some ⟨w7.heap.size, 0, none⟩) 1 1, .bool false]) 46 (0, 0) (B8.box _ (.tail _ (.tail _ (.tail _ (.head _))))))
  have HB9 := Lib.hid (below_setRow B8.below (show w.heap.size ≤ w.heap.size + 1 + 1 + 1 by omega) (#[.int .i64 m.fr, .int .i64 e.s.c, .int .i64 e.s.m, .slice none 0 0, .bool false, .slice (some ⟨w7.heap.size, 0, none⟩) 1 1, .bool false]))
  have HM9 := Lib.hid (HM8.out.rowOf (w.heap.size + 1 + 1 + 1) (by have := B7.box _ (.tail _ (.tail _ (.tail _ (.head _)))); have := lt_of_block this; simp only at this; omega) (#[.int .i64 m.fr, .int .i64 e.s.c, .int .i64 e.s.m, .slice none 0 0, .bool false, .slice (some ⟨w7.heap.size, 0, none⟩) 1 1, .bool false]))
  have HN9 := Lib.hid HB9.out
  refine hK.out _ _ (HS9) (fun hh4 => ?_)
  clear hK K hh3
  simp only [Act.put]
  refine wpAnyH_take (fuel := 0) (i := 10) (oi := ⟨some 7, _, _, _, _, _⟩) (v := .int .i64 0) rfl (by kernel_rfl) (by kernel_rfl) (by kernel_rfl) (fun _ _ _ h => h) (Or.inl ⟨by rfl, ?_⟩) hh4 ?_
  · rintro w' ⟨cE, cM, cW, cZ, cC, cA⟩
    go_simp
  simp only [Act.put, List.setIfInBounds_toArray, List.set_cons_zero, List.set_cons_succ]
  refine wpAnyH_done (by kernel_rfl) ?_ _
  refine NoPanic.normal ?_
  clear hh4
  clear HS9 B6 B7 B8 hb7 hb8 HM8 hcE hcM hcW hcZ hcC hcA B5
  generalize World.setRow _ _ _ = w9 at HC9 HB9 HM9 HN9 ⊢
  go_wp2_with fail
  rw [HRES.out]
  exact turnR_ret (t := ⟨⟨m.fr, ⟨e.s.c, e.s.m, [], false⟩⟩, [⟨7, m.ln, m.to, m.fr, 0, 0, 2, v.w0, v.w1, v.w2, v.w3, v.w4, v.w5, v.w6, v.w7⟩], false⟩) (p := none) (cap := 0) (q := some ⟨w7.heap.size, 0, none⟩) (qc := 1) Try.results10 rfl rfl rfl HC9.out (NumsIn.nil _ _) HM9.out HB9.out _ _ (.inr (.inl rfl))

set_option maxRecDepth 100000 in
set_option maxHeartbeats 16000000 in
theorem rnext_shared (e : En) (p : Option Addr) (cap : Nat) (m : Msg) (v : W8) (w : World) (hl : e.s.l.length ≤ 5000) (hn : NumsIn w p e.s.l) (hg : goodQ e m = true) (hk : m.kd = 1) (h1 : e.ow = -1) (hf : e.free = false) :
    Calls Try.prog 10 #[ev e p cap, mv m, .agg (wcells v)] w (GaveT2 w (nextT e m v).1 (nextT e m v).2 p e.s.l) := by
  have B0 := Bx.four w (ecells e p cap) (mcells m) (wcells v) ztc 37 30 28 46
  have HN := Lib.hid hn
  obtain ⟨g1, g2, g3⟩ := good_all hg
  obtain ⟨s1, s2, s3⟩ := may_parts g1
  have HM := Lib.hid g1
  have ha : addS e.s m.fr = (withS e.s m.fr, 0) := by unfold addS; rw [if_pos s1, if_pos g3]
  have HA := Lib.hid ha
  have k1 : decide (m.kd < 1) = false := by simp [isReq] at g2; simp; omega
  have k2 : decide (3 < m.kd) = false := by simp [isReq] at g2; simp; omega
  obtain ⟨r1, r2⟩ := hasB_iff.1 g3
  have k3 : decide (m.fr < 0) = false := by simp; omega
  have k4 : decide (e.s.c ≤ m.fr) = false := by simp; omega
  have q1 : (m.kd == 1) = true := by simpa using hk
  have q2 : (e.ow == m.fr) = false := by simp; omega
  have q3 : decide (0 ≤ e.ow) = false := by simp; omega
  have HS1 := Lib.hid s1
  have q4 : (((targetsS e.s []).length : Int) == 0) = false := by
    have := hf
    simp only [En.free, h1, beq_self_eq_true, Bool.true_and] at this
    exact this
  have HRES : Hid (nextT e m v = (⟨⟨-1, withS e.s m.fr⟩, [⟨7, m.ln, m.to, m.fr, 0, 0, 1, v.w0, v.w1, v.w2, v.w3, v.w4, v.w5, v.w6, v.w7⟩], false⟩, 0)) := Lib.hid (by
    have hr : readM e m v = ⟨7, 0, 0, m.fr, 0, 0, 1, v.w0, v.w1, v.w2, v.w3, v.w4, v.w5, v.w6, v.w7⟩ := by simp [readM, fullM, hf]
    rw [← h1]
    unfold nextT shareT
    rw [if_neg (not_bad hg), if_pos hk, if_pos h1, if_neg (by rw [hf]; simp), hr, add_fine s1 g3]
    rfl)
  clear hn hg g1 g2 g3 s1 s2 s3 ha r1 r2 hk h1 hf
  go_enter Try.func10, Try.ntmps10
  go_wp2_with (first
    | (go_at_call 14; refine (rmay_is HM.out p cap _ (by omega) (HN.out.step B0.below)).mono ?_; rintro _ w1 ⟨rfl, hb1⟩; have B1 := B0.step hb1; have hcE := B1.cells (.tail _ (.tail _ (.tail _ (.head _)))); have hcM := B1.cells (.tail _ (.tail _ (.head _))); clear hb1; have l0 : w.heap.size < w1.heap.size := lt_of_block (B1.box _ (.tail _ (.tail _ (.tail _ (.head _))))); have l1 : w.heap.size + 1 < w1.heap.size := lt_of_block (B1.box _ (.tail _ (.tail _ (.head _)))); have B2 := B1.add zw 28; have B3 := B2.addAt (sv e.s.c e.s.m none 0 0 false) 35 (w1.heap.size + 1) (by simp))
    | (go_at_call 23; refine (radd_is HA.out p cap _ (HN.out.step B3.below) hl).mono ?_; rintro _ w4 ⟨pa, ca, rfl, hi4, hb4, ho4⟩; have B4 := B3.step hb4; generalize withS e.s m.fr = s' at *; have B5 := B4.addAt (sval s' pa ca) 35 w4.heap.size rfl; have HPA := Lib.hid (hi4.step (balloc w4 (.cells (sval s' pa ca) 35))); have hz5 : (w4.alloc (.cells (sval s' pa ca) 35)).heap.size = w4.heap.size + 1 := (by simp); have hgz : w.heap.size + 1 + 1 + 1 < w1.heap.size := lt_of_block (B1.box _ (.head _)); have hga : w.heap.size + 1 + 1 + 1 < w4.heap.size := lt_of_block (B4.box _ (.tail _ (.tail _ (.head _)))); have HPF := Lib.hid (apart_row (r := w.heap.size + 1 + 1 + 1) HN.out ho4 (by omega) (by simp; omega)); have HPO := Lib.hid (old_or ho4 B3.below.size); clear hb4 hi4 ho4 hcE hcM l0 l1 B0 B1 B2 B3 B4 HA; generalize w1.heap.size = gz at *; have hcE := B5.cells (.tail _ (.tail _ (.tail _ (.tail _ (.tail _ (.tail _ (.head _))))))); have hcM := B5.cells (.tail _ (.tail _ (.tail _ (.tail _ (.tail _ (.head _)))))); have hcW := B5.cells (.tail _ (.tail _ (.tail _ (.tail _ (.head _))))); have hcZ := B5.cells (.tail _ (.tail _ (.head _))); have hcC := B5.cells (.tail _ (.head _)); have hcA := B5.cells (.head _)))
  generalize World.alloc w4 _ = w5 at *
  generalize w4.heap.size = ga at *
  refine (rtargets_is HS1.out p cap _ 0 [] _ (HN.out.step (bstep B5.below (balloc w5 (.cells #[] 3)))) (NumsIn.nil _ _) hl (by simp)).mono ?_
  rintro _ w6 ⟨pt, ct, rfl, -, hb6⟩
  replace B5 := (B5.step (balloc w5 (.cells #[] 3))).step hb6
  replace HPA := Lib.hid ((HPA.out.step (balloc w5 (.cells #[] 3))).step hb6)
  clear hb6
  replace hcE := B5.cells (.tail _ (.tail _ (.tail _ (.tail _ (.tail _ (.tail _ (.head _))))))); replace hcM := B5.cells (.tail _ (.tail _ (.tail _ (.tail _ (.tail _ (.head _)))))); replace hcW := B5.cells (.tail _ (.tail _ (.tail _ (.tail _ (.head _))))); replace hcZ := B5.cells (.tail _ (.tail _ (.head _))); replace hcC := B5.cells (.tail _ (.head _)); replace hcA := B5.cells (.head _)
  go_wp2_with fail
  have B6 := B5.step (below_drew _)
  refine wp_region_noPanic ?_
  refine wp_region_held_drew (S := fun w' => (∀ o, w'.cell? ⟨w.heap.size, o, none⟩ = (ecells e p cap)[o]?) ∧ (∀ o, w'.cell? ⟨w.heap.size + 1, o, none⟩ = (mcells m)[o]?) ∧ (∀ o, w'.cell? ⟨w.heap.size + 1 + 1, o, none⟩ = (wcells v)[o]?) ∧ (∀ o, w'.cell? ⟨gz, o, none⟩ = zw[o]?) ∧ (∀ o, w'.cell? ⟨gz + 1, o, none⟩ = (sv e.s.c e.s.m none 0 0 false)[o]?) ∧ (∀ o, w'.cell? ⟨ga, o, none⟩ = (sval s' pa ca)[o]?)) (by kernel_rfl) B6.six (fun hh => ?_)
  refine wpAnyH_take (fuel := 9) (i := 0) (oi := ⟨some 115, _, _, _, _, _⟩) (v := .agg (sval s' pa ca)) rfl (by kernel_rfl) (by kernel_rfl) (by kernel_rfl) (fun _ _ _ h => h) (Or.inl ⟨by rfl, ?_⟩) hh ?_
  · rintro w' ⟨cE, cM, cW, cZ, cC, cA⟩
    go_simp
  simp only [Act.put, List.setIfInBounds_toArray, List.set_cons_zero, List.set_cons_succ]
  refine wpAnyH_take (fuel := 8) (i := 1) (oi := ⟨some 116, _, _, _, _, _⟩) (v := .agg #[.int .i64 (-1), .int .i64 s'.c, .int .i64 s'.m, .slice pa s'.l.length ca, .bool s'.al]) rfl (by kernel_rfl) (by kernel_rfl) (by kernel_rfl) (fun _ _ _ h => h) (Or.inl ⟨by rfl, ?_⟩) hh ?_
  · rintro w' ⟨cE, cM, cW, cZ, cC, cA⟩
    go_simp
  simp only [Act.put, List.setIfInBounds_toArray, List.set_cons_zero, List.set_cons_succ]
  refine wpAnyH_take (fuel := 7) (i := 2) (oi := ⟨some 117, _, _, _, _, _⟩) (v := .agg (mcells m)) rfl (by kernel_rfl) (by kernel_rfl) (by kernel_rfl) (fun _ _ _ h => h) (yields_load_at (by rfl) 30 (.tmp 4) rfl (w.heap.size + 1) 0 rfl (mcells m) _ (fun w' ⟨_, c0, _⟩ => range_of c0) Try.underlying30 rfl (by kernel_rfl)) hh ?_
  simp only [Act.put, List.setIfInBounds_toArray, List.set_cons_zero, List.set_cons_succ]
  refine wpAnyH_take (fuel := 6) (i := 3) (oi := ⟨some 118, _, _, _, _, _⟩) (v := .int .i64 m.fr) rfl (by kernel_rfl) (by kernel_rfl) (by kernel_rfl) (fun _ _ _ h => h) (Or.inl ⟨by rfl, ?_⟩) hh ?_
  · rintro w' ⟨cE, cM, cW, cZ, cC, cA⟩
    go_simp
  simp only [Act.put, List.setIfInBounds_toArray, List.set_cons_zero, List.set_cons_succ]
  refine wpAnyH_take (fuel := 5) (i := 4) (oi := ⟨some 119, _, _, _, _, _⟩) (v := .agg (wcells v)) rfl (by kernel_rfl) (by kernel_rfl) (by kernel_rfl) (fun _ _ _ h => h) (Or.inl ⟨by rfl, ?_⟩) hh ?_
  · rintro w' ⟨cE, cM, cW, cZ, cC, cA⟩
    go_simp
  simp only [Act.put, List.setIfInBounds_toArray, List.set_cons_zero, List.set_cons_succ]
  refine wpAnyH_ready (fuel := 4) (rs := [5]) (by kernel_rfl) (by simp) ?_
  refine AllReadyH.cons (o := ⟨some 120, _, _, _, _, _⟩) rfl (fun K hK => ?_) AllReadyH.nil
  go_simp
  refine (rmsg_any m 7 m.fr 0 0 1 v _).mono ?_
  rintro _ w7 ⟨rfl, hb7⟩
  have B7 := B6.step hb7
  show K _ _
  refine hK.out _ _ (B7.six) (fun hh2 => ?_)
  clear hK K hh
  try simp only [Act.put, List.setIfInBounds_toArray, List.set_cons_zero, List.set_cons_succ]
  refine wpAnyH_ready (fuel := 3) (rs := [6]) (by kernel_rfl) (by simp) ?_
  refine AllReadyH.cons (o := ⟨some 121, _, _, _, _, _⟩) rfl (fun K hK => ?_) AllReadyH.nil
  go_simp
  have hb8 := balloc w7 (.cells (rcells m 7 m.fr 0 0 1 v) 30)
  have B8 := B7.step hb8
  have HM8 := Lib.hid (MsIn.lit (w := w7) (L := [⟨7, m.ln, m.to, m.fr, 0, 0, 1, v.w0, v.w1, v.w2, v.w3, v.w4, v.w5, v.w6, v.w7⟩]) (A := rcells m 7 m.fr 0 0 1 v) 30 rfl)
  show K _ _
  refine hK.out _ _ B8.six (fun hh3 => ?_)
  clear hK K hh2
  try simp only [Act.put, List.setIfInBounds_toArray, List.set_cons_zero, List.set_cons_succ]
  refine wpAnyH_take (fuel := 2) (i := 7) (oi := ⟨some 122, _, _, _, _, _⟩) (v := .agg #[.int .i64 (-1), .int .i64 s'.c, .int .i64 s'.m, .slice pa s'.l.length ca, .bool s'.al, .slice (some ⟨w7.heap.size, 0, none⟩) 1 1, .bool false]) rfl (by kernel_rfl) (by kernel_rfl) (by kernel_rfl) (fun _ _ _ h => h) (Or.inl ⟨by rfl, ?_⟩) hh3 ?_
  · rintro w' ⟨cE, cM, cW, cZ, cC, cA⟩
    go_simp
  simp only [Act.put, List.setIfInBounds_toArray, List.set_cons_zero, List.set_cons_succ]
  refine wpAnyH_ready (fuel := 1) (rs := [8]) (by kernel_rfl) (by simp) ?_
  refine AllReadyH.cons (o := ⟨none, _, _, _, _, _⟩) rfl (fun K hK => ?_) AllReadyH.nil
  rw [if_pos (by rfl)]
  refine wp_store_row 46 (.tmp 6) (.tmp 122) rfl (w.heap.size + 1 + 1 + 1) (#[.int .i64 (-1), .int .i64 s'.c, .int .i64 s'.m, .slice pa s'.l.length ca, .bool s'.al, .slice (some ⟨w7.heap.size, 0, none⟩) 1 1, .bool false]) rfl rfl 46 ztc (B8.box _ (.tail _ (.tail _ (.tail _ (.head _))))) (by kernel_rfl) rfl (by kernel_rfl) ?_
  have HS9 := six_row B8.six hgz hga (#[.int .i64 (-1), .int .i64 s'.c, .int .i64 s'.m, .slice pa s'.l.length ca, .bool s'.al, .slice (some ⟨w7.heap.size, 0, none⟩) 1 1, .bool false])
  have HC9 := Lib.hid (setRow_heap _ (w.heap.size + 1 + 1 + 1) _ (#[.int .i64 (-1), .int .i64 s'.c, .int .i64 s'.m, .slice pa s'.l.length ca, .bool s'.al, .slice (some ⟨w7.heap.size, 0, none⟩) 1 1, .bool false]) 46 (0, 0) (B8.box _ (.tail _ (.tail _ (.tail _ (.head _))))))
  have HB9 := Lib.hid (below_setRow B8.below (show w.heap.size ≤ w.heap.size + 1 + 1 + 1 by omega) (#[.int .i64 (-1), .int .i64 s'.c, .int .i64 s'.m, .slice pa s'.l.length ca, .bool s'.al, .slice (some ⟨w7.heap.size, 0, none⟩) 1 1, .bool false]))
  have HM9 := Lib.hid (HM8.out.rowOf (w.heap.size + 1 + 1 + 1) (by have := B7.box _ (.tail _ (.tail _ (.tail _ (.head _)))); have := lt_of_block this; simp only at this; omega) (#[.int .i64 (-1), .int .i64 s'.c, .int .i64 s'.m, .slice pa s'.l.length ca, .bool s'.al, .slice (some ⟨w7.heap.size, 0, none⟩) 1 1, .bool false]))
  have HN9 := Lib.hid (((HPA.out.step (below_drew _)).step hb7).step hb8 |>.rowN (w.heap.size + 1 + 1 + 1) HPF.out (#[.int .i64 (-1), .int .i64 s'.c, .int .i64 s'.m, .slice pa s'.l.length ca, .bool s'.al, .slice (some ⟨w7.heap.size, 0, none⟩) 1 1, .bool false]))
  refine hK.out _ _ (HS9) (fun hh4 => ?_)
  clear hK K hh3
  simp only [Act.put]
  refine wpAnyH_take (fuel := 0) (i := 9) (oi := ⟨some 7, _, _, _, _, _⟩) (v := .int .i64 0) rfl (by kernel_rfl) (by kernel_rfl) (by kernel_rfl) (fun _ _ _ h => h) (Or.inl ⟨by rfl, ?_⟩) hh4 ?_
  · rintro w' ⟨cE, cM, cW, cZ, cC, cA⟩
    go_simp
  simp only [Act.put, List.setIfInBounds_toArray, List.set_cons_zero, List.set_cons_succ]
  refine wpAnyH_done (by kernel_rfl) ?_ _
  refine NoPanic.normal ?_
  clear hh4
  clear HS9 B6 B7 B8 hb7 hb8 HM8 hcE hcM hcW hcZ hcC hcA B5
  generalize World.setRow _ _ _ = w9 at HC9 HB9 HM9 HN9 ⊢
  go_wp2_with fail
  rw [HRES.out]
  exact turnR_ret (t := ⟨⟨-1, s'⟩, [⟨7, m.ln, m.to, m.fr, 0, 0, 1, v.w0, v.w1, v.w2, v.w3, v.w4, v.w5, v.w6, v.w7⟩], false⟩) (p := pa) (cap := ca) (q := some ⟨w7.heap.size, 0, none⟩) (qc := 1) Try.results10 rfl rfl rfl HC9.out HN9.out HM9.out HB9.out _ _ HPO.out

set_option maxRecDepth 100000 in
set_option maxHeartbeats 16000000 in
theorem rnext_none (e : En) (p : Option Addr) (cap : Nat) (m : Msg) (v : W8) (w : World) (hl : e.s.l.length ≤ 5000) (hn : NumsIn w p e.s.l) (hg : goodQ e m = true) (hk : m.kd = 1) (h2 : e.ow = m.fr) :
    Calls Try.prog 10 #[ev e p cap, mv m, .agg (wcells v)] w (GaveT2 w (nextT e m v).1 (nextT e m v).2 p e.s.l) := by
  have B0 := Bx.four w (ecells e p cap) (mcells m) (wcells v) ztc 37 30 28 46
  have HN := Lib.hid hn
  obtain ⟨g1, g2, g3⟩ := good_all hg
  obtain ⟨s1, s2, s3⟩ := may_parts g1
  have HM := Lib.hid g1
  have ha : addS e.s m.fr = (withS e.s m.fr, 0) := by unfold addS; rw [if_pos s1, if_pos g3]
  have HA := Lib.hid ha
  have k1 : decide (m.kd < 1) = false := by simp [isReq] at g2; simp; omega
  have k2 : decide (3 < m.kd) = false := by simp [isReq] at g2; simp; omega
  obtain ⟨r1, r2⟩ := hasB_iff.1 g3
  have k3 : decide (m.fr < 0) = false := by simp; omega
  have k4 : decide (e.s.c ≤ m.fr) = false := by simp; omega
  have q1 : (m.kd == 1) = true := by simpa using hk
  have q2 : (e.ow == m.fr) = true := by simpa using h2
  have HRES : Hid (nextT e m v = (zT, 7)) := Lib.hid (by
    unfold nextT
    rw [if_neg (not_bad hg), if_pos hk, if_neg (by omega), if_pos h2])
  clear hn hg g1 g2 g3 s1 s2 s3 ha r1 r2 hk h2
  go_enter Try.func10, Try.ntmps10
  go_wp2_with (first
    | (go_at_call 14; refine (rmay_is HM.out p cap _ (by omega) (HN.out.step B0.below)).mono ?_; rintro _ w1 ⟨rfl, hb1⟩; have B1 := B0.step hb1; have hcE := B1.cells (.tail _ (.tail _ (.tail _ (.head _)))); have hcM := B1.cells (.tail _ (.tail _ (.head _))); clear hb1; have l0 : w.heap.size < w1.heap.size := lt_of_block (B1.box _ (.tail _ (.tail _ (.tail _ (.head _))))); have l1 : w.heap.size + 1 < w1.heap.size := lt_of_block (B1.box _ (.tail _ (.tail _ (.head _)))); have B2 := B1.add zw 28; have B3 := B2.addAt (sv e.s.c e.s.m none 0 0 false) 35 (w1.heap.size + 1) (by simp))
    | ((with_reducible refine wpList_store_row (o := ⟨none, _, _, _, _, _⟩) rfl 46 (.tmp 6) (.tmp 71) rfl (w.heap.size + 1 + 1 + 1) ztc ?sx ?sy 46 ztc ?sg ?si ?so ?s1 ?_); (case sx => rfl); (case sy => rfl); (case sg => exact B5.box _ (.tail _ (.tail _ (.tail _ (.head _))))); (case si => kernel_rfl); (case so => rfl); (case s1 => kernel_rfl))
    | (go_at_call 23; refine (radd_is HA.out p cap _ (HN.out.step B3.below) hl).mono ?_; rintro _ w4 ⟨pa, ca, rfl, hi4, hb4, ho4⟩; have B4 := B3.step hb4; generalize withS e.s m.fr = s' at *; have B5 := B4.addAt (sval s' pa ca) 35 w4.heap.size rfl; have HPA := Lib.hid (hi4.step (balloc w4 (.cells (sval s' pa ca) 35))); have hz5 : (w4.alloc (.cells (sval s' pa ca) 35)).heap.size = w4.heap.size + 1 := (by simp); have hgz : w.heap.size + 1 + 1 + 1 < w1.heap.size := lt_of_block (B1.box _ (.head _)); have hga : w.heap.size + 1 + 1 + 1 < w4.heap.size := lt_of_block (B4.box _ (.tail _ (.tail _ (.head _)))); have HPF := Lib.hid (apart_row (r := w.heap.size + 1 + 1 + 1) HN.out ho4 (by omega) (by simp; omega)); have HPO := Lib.hid (old_or ho4 B3.below.size); clear hb4 hi4 ho4 hcE hcM l0 l1 B0 B1 B2 B3 B4 HA; generalize w1.heap.size = gz at *; have hcE := B5.cells (.tail _ (.tail _ (.tail _ (.tail _ (.tail _ (.tail _ (.head _))))))); have hcM := B5.cells (.tail _ (.tail _ (.tail _ (.tail _ (.tail _ (.head _)))))); have hcW := B5.cells (.tail _ (.tail _ (.tail _ (.tail _ (.head _))))); have hcZ := B5.cells (.tail _ (.tail _ (.head _))); have hcC := B5.cells (.tail _ (.head _)); have hcA := B5.cells (.head _)))
  rw [HRES.out]
  exact turnR_ret (t := zT) (p := none) (cap := 0) (q := none) (qc := 0) Try.results10 rfl rfl rfl (setRow_heap _ _ _ _ _ _ (B5.box _ (.tail _ (.tail _ (.tail _ (.head _)))))) (NumsIn.nil _ _) (MsIn.nil _ _) (below_setRow B5.below (by omega) _) _ _ (.inr (.inl rfl))

end Go.Proofs.Ytfnemldjhfcalaa
