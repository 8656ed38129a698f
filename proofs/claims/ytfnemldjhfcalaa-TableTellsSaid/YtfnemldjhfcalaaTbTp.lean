/-
  The document's Next: Put.
-/
import Derived.Test.YtfnemldjhfcalaaTbT
namespace Go.Proofs.Ytfnemldjhfcalaa
open Go Go.RowKit Go.Sort

set_option maxRecDepth 100000 in
set_option maxHeartbeats 16000000 in
theorem rnext_putN (e : En) (p : Option Addr) (cap : Nat) (m : Msg) (v : W8) (w : World) (hl : e.s.l.length ≤ 5000) (hn : NumsIn w p e.s.l) (hg : goodQ e m = true) (hk : m.kd = 3) (h2 : e.ow ≠ m.fr) :
    Calls Try.prog 10 #[ev e p cap, mv m, .agg (wcells v)] w (GaveT2 w (nextT e m v).1 (nextT e m v).2 p e.s.l) := by
  have B0 := Bx.four w (ecells e p cap) (mcells m) (wcells v) ztc 37 30 28 46
  have HN := Lib.hid hn
  obtain ⟨g1, g2, g3⟩ := good_all hg
  obtain ⟨s1, s2, s3⟩ := may_parts g1
  have HM := Lib.hid g1
  have ha : addS e.s m.fr = (withS e.s m.fr, 0) := by unfold addS; rw [if_pos s1, if_pos g3]
  have HA := Lib.hid ha
  have k1 : decide (m.kd < 1) = false := by simp [isReq] at g2; simp; omega
  have k2 : decide (3 < m.kd) = false := by simp [isReq] at g2; simp; omega
  obtain ⟨r1, r2⟩ := hasB_iff.1 g3
  have k3 : decide (m.fr < 0) = false := by simp; omega
  have k4 : decide (e.s.c ≤ m.fr) = false := by simp; omega
  have q1 : (m.kd == 1) = false := by simp; omega
  have q3 : (m.kd == 3) = true := by simpa using hk
  have q4 : (e.ow == m.fr) = false := by simpa using h2
  have HRES : Hid (nextT e m v = (⟨e, [⟨10, m.ln, m.to, m.fr, 0, 0, 0, 0, 0, 0, 0, 0, 0, 0, 0⟩], false⟩, 0)) := Lib.hid (by
    rw [next_leave hg (by omega) (by omega)]
    unfold leaveT
    rw [if_neg h2]
    rfl)
  clear hn hg g1 g2 g3 s1 s2 s3 ha r1 r2 hk h2
  go_enter Try.func10, Try.ntmps10
  go_wp2_with (first
    | (go_at_call 14; refine (rmay_is HM.out p cap _ (by omega) (HN.out.step B0.below)).mono ?_; rintro _ w1 ⟨rfl, hb1⟩; have B1 := B0.step hb1; have hcE := B1.cells (.tail _ (.tail _ (.tail _ (.head _)))); have hcM := B1.cells (.tail _ (.tail _ (.head _))); clear hb1; have l0 : w.heap.size < w1.heap.size := lt_of_block (B1.box _ (.tail _ (.tail _ (.tail _ (.head _))))); have l1 : w.heap.size + 1 < w1.heap.size := lt_of_block (B1.box _ (.tail _ (.tail _ (.head _)))); have B2 := B1.add zw 28; have B3 := B2.addAt (sv e.s.c e.s.m none 0 0 false) 35 (w1.heap.size + 1) (by simp))
    | (go_at_call 23; refine (radd_is HA.out p cap _ (HN.out.step B3.below) hl).mono ?_; rintro _ w4 ⟨pa, ca, rfl, hi4, hb4, ho4⟩; have B4 := B3.step hb4; generalize withS e.s m.fr = s' at *; have B5 := B4.addAt (sval s' pa ca) 35 w4.heap.size rfl; have HPA := Lib.hid (hi4.step (balloc w4 (.cells (sval s' pa ca) 35))); have hz5 : (w4.alloc (.cells (sval s' pa ca) 35)).heap.size = w4.heap.size + 1 := (by simp); have hgz : w.heap.size + 1 + 1 + 1 < w1.heap.size := lt_of_block (B1.box _ (.head _)); have hga : w.heap.size + 1 + 1 + 1 < w4.heap.size := lt_of_block (B4.box _ (.tail _ (.tail _ (.head _)))); have HPF := Lib.hid (apart_row (r := w.heap.size + 1 + 1 + 1) HN.out ho4 (by omega) (by simp; omega)); have HPO := Lib.hid (old_or ho4 B3.below.size); clear hb4 hi4 ho4 hcE hcM l0 l1 B0 B1 B2 B3 B4 HA; generalize w1.heap.size = gz at *; have hcE := B5.cells (.tail _ (.tail _ (.tail _ (.tail _ (.tail _ (.tail _ (.head _))))))); have hcM := B5.cells (.tail _ (.tail _ (.tail _ (.tail _ (.tail _ (.head _)))))); have hcW := B5.cells (.tail _ (.tail _ (.tail _ (.tail _ (.head _))))); have hcZ := B5.cells (.tail _ (.tail _ (.head _))); have hcC := B5.cells (.tail _ (.head _)); have hcA := B5.cells (.head _)))
  generalize World.alloc w4 _ = w5 at *
  generalize w4.heap.size = ga at *
  have B6 := Lib.hid (B5.step (below_drew _))
  clear hcE hcM hcW hcZ hcC hcA B5
  generalize hW0 : w5.drew = W0 at B6
  refine wp_region_noPanic ?_
  refine wp_region_held_drew (S := fun w' => (∀ o, w'.cell? ⟨w.heap.size, o, none⟩ = (ecells e p cap)[o]?) ∧ (∀ o, w'.cell? ⟨w.heap.size + 1, o, none⟩ = (mcells m)[o]?) ∧ (∀ o, w'.cell? ⟨w.heap.size + 1 + 1, o, none⟩ = (wcells v)[o]?) ∧ (∀ o, w'.cell? ⟨gz, o, none⟩ = zw[o]?) ∧ (∀ o, w'.cell? ⟨gz + 1, o, none⟩ = (sv e.s.c e.s.m none 0 0 false)[o]?) ∧ (∀ o, w'.cell? ⟨ga, o, none⟩ = (sval s' pa ca)[o]?)) (by kernel_rfl) (by rw [hW0]; exact B6.out.six) (fun hh => ?_)
  rw [hW0] at hh ⊢
  refine wpAnyH_take (fuel := 8) (i := 0) (oi := ⟨some 126, _, _, _, _, _⟩) (v := .agg (ecells e p cap)) rfl (by kernel_rfl) (by kernel_rfl) (by kernel_rfl) (fun _ _ _ h => h) (Or.inl ⟨by rfl, ?_⟩) hh ?_
  · rintro w' ⟨cE, cM, cW, cZ, cC, cA⟩
    go_simp
  simp only [Act.put, List.setIfInBounds_toArray, List.set_cons_zero, List.set_cons_succ]
  refine wpAnyH_take (fuel := 7) (i := 1) (oi := ⟨some 127, _, _, _, _, _⟩) (v := .agg (mcells m)) rfl (by kernel_rfl) (by kernel_rfl) (by kernel_rfl) (fun _ _ _ h => h) (yields_load_at (by rfl) 30 (.tmp 4) rfl (w.heap.size + 1) 0 rfl (mcells m) _ (fun w' ⟨_, c0, _⟩ => range_of c0) Try.underlying30 rfl (by kernel_rfl)) hh ?_
  simp only [Act.put, List.setIfInBounds_toArray, List.set_cons_zero, List.set_cons_succ]
  refine wpAnyH_take (fuel := 6) (i := 2) (oi := ⟨some 128, _, _, _, _, _⟩) (v := .int .i64 m.fr) rfl (by kernel_rfl) (by kernel_rfl) (by kernel_rfl) (fun _ _ _ h => h) (Or.inl ⟨by rfl, ?_⟩) hh ?_
  · rintro w' ⟨cE, cM, cW, cZ, cC, cA⟩
    go_simp
  simp only [Act.put, List.setIfInBounds_toArray, List.set_cons_zero, List.set_cons_succ]
  refine wpAnyH_take (fuel := 5) (i := 3) (oi := ⟨some 129, _, _, _, _, _⟩) (v := .agg zw) rfl (by kernel_rfl) (by kernel_rfl) (by kernel_rfl) (fun _ _ _ h => h) (Or.inl ⟨by rfl, ?_⟩) hh ?_
  · rintro w' ⟨cE, cM, cW, cZ, cC, cA⟩
    go_simp
  simp only [Act.put, List.setIfInBounds_toArray, List.set_cons_zero, List.set_cons_succ]
  refine wpAnyH_ready (fuel := 4) (rs := [4, 7]) (by kernel_rfl) (by simp) ?_
  refine AllReadyH.cons (o := ⟨some 130, _, _, _, _, _⟩) rfl (fun K hK => ?_) (AllReadyH.cons (o := ⟨some 13, _, _, _, _, _⟩) rfl (fun K hK => ?_) AllReadyH.nil)
  · skip
    go_simp
    refine (rmsg_any m 10 m.fr 0 0 0 w0 _).mono ?_
    rintro _ W1 ⟨rfl, hbb⟩
    have B7 := Lib.hid (B6.out.step hbb)
    show K _ _
    refine hK.out _ _ B7.out.six (fun hh4 => ?_)
    clear hK K hh hbb
    try simp only [Act.put, List.setIfInBounds_toArray, List.set_cons_zero, List.set_cons_succ]
    refine wpAnyH_ready (fuel := 3) (rs := [5, 7]) (by kernel_rfl) (by simp) ?_
    refine AllReadyH.cons (o := ⟨some 131, _, _, _, _, _⟩) rfl (fun K hK => ?_) (AllReadyH.cons (o := ⟨some 13, _, _, _, _, _⟩) rfl (fun K hK => ?_) AllReadyH.nil)
    · skip
      go_simp
      have hbb := balloc W1 (.cells (rcells m 10 m.fr 0 0 0 w0) 30)
      have hlit := MsIn.lit (w := W1) (L := [⟨10, m.ln, m.to, m.fr, 0, 0, 0, 0, 0, 0, 0, 0, 0, 0, 0⟩]) (A := rcells m 10 m.fr 0 0 0 w0) 30 rfl
      generalize hWq : W1.alloc (.cells (rcells m 10 m.fr 0 0 0 w0) 30) = W2 at hbb hlit
      have B8 := Lib.hid (B7.out.step hbb)
      have M2 := Lib.hid hlit
      clear hlit
      show K _ _
      refine hK.out _ _ B8.out.six (fun hh3 => ?_)
      clear hK K hh4 hbb hWq
      try simp only [Act.put, List.setIfInBounds_toArray, List.set_cons_zero, List.set_cons_succ]
      refine wpAnyH_take (fuel := 2) (i := 6) (oi := ⟨some 132, _, _, _, _, _⟩) (v := .agg #[.int .i64 e.ow, .int .i64 e.s.c, .int .i64 e.s.m, .slice p e.s.l.length cap, .bool e.s.al, .slice (some ⟨W1.heap.size, 0, none⟩) 1 1, .bool false]) rfl (by kernel_rfl) (by kernel_rfl) (by kernel_rfl) (fun _ _ _ h => h) (Or.inl ⟨by rfl, ?_⟩) hh3 ?_
      · rintro w' ⟨cE, cM, cW, cZ, cC, cA⟩
        go_simp
      simp only [Act.put, List.setIfInBounds_toArray, List.set_cons_zero, List.set_cons_succ]
      refine wpAnyH_ready (fuel := 1) (rs := [7]) (by kernel_rfl) (by simp) ?_
      refine AllReadyH.cons (o := ⟨some 13, _, _, _, _, _⟩) rfl (fun K hK => ?_) AllReadyH.nil
      go_simp
      have hbb := balloc W2 (.cells (ztc) 46)
      have hnew := heap_alloc_new W2 (.cells (ztc) 46)
      generalize hWq : W2.alloc (.cells (ztc) 46) = W3 at hbb hnew
      have B9 := Lib.hid (B8.out.step hbb)
      have M3 := Lib.hid (M2.out.step hbb)
      have T3 := Lib.hid hnew
      have AW := Lib.hid B8.out.fresh
      have NE : Hid (W1.heap.size ≠ W2.heap.size) := Lib.hid (by obtain ⟨k, e, hk, -⟩ := M2.out 0 _ rfl; cases e; omega)
      clear hnew
      show K _ _
      refine hK.out _ _ B9.out.six (fun hh1 => ?_)
      clear hK K hh3 hbb hWq
      try simp only [Act.put, List.setIfInBounds_toArray, List.set_cons_zero, List.set_cons_succ]
      refine wpAnyH_ready (fuel := 0) (rs := [8]) (by kernel_rfl) (by simp) ?_
      refine AllReadyH.cons (o := ⟨none, _, _, _, _, _⟩) rfl (fun K hK => ?_) AllReadyH.nil
      rw [if_pos (by rfl)]
      refine wp_store_row 46 (.tmp 13) (.tmp 132) rfl (W2.heap.size) (#[.int .i64 e.ow, .int .i64 e.s.c, .int .i64 e.s.m, .slice p e.s.l.length cap, .bool e.s.al, .slice (some ⟨W1.heap.size, 0, none⟩) 1 1, .bool false]) rfl rfl 46 ztc T3.out (by kernel_rfl) rfl (by kernel_rfl) ?_
      have BZ := Lib.hid (B9.out.away AW.out.1 AW.out.2 (#[.int .i64 e.ow, .int .i64 e.s.c, .int .i64 e.s.m, .slice p e.s.l.length cap, .bool e.s.al, .slice (some ⟨W1.heap.size, 0, none⟩) 1 1, .bool false]))
      have TZ := Lib.hid (setRow_heap _ (W2.heap.size) _ (#[.int .i64 e.ow, .int .i64 e.s.c, .int .i64 e.s.m, .slice p e.s.l.length cap, .bool e.s.al, .slice (some ⟨W1.heap.size, 0, none⟩) 1 1, .bool false]) 46 (0, 0) T3.out)
      have MZ := Lib.hid (M3.out.rowOf (W2.heap.size) NE.out (#[.int .i64 e.ow, .int .i64 e.s.c, .int .i64 e.s.m, .slice p e.s.l.length cap, .bool e.s.al, .slice (some ⟨W1.heap.size, 0, none⟩) 1 1, .bool false]))
      refine hK.out _ _ BZ.out.six (fun hhz => ?_)
      clear hK K hh1
      simp only [Act.put]
      refine wpAnyH_done (by kernel_rfl) ?_ _
      refine NoPanic.normal ?_
      clear hhz
      generalize World.setRow _ _ _ = W9 at BZ TZ MZ ⊢
      generalize (W1.heap.size) = gs at *
      generalize (W2.heap.size) = gt at *
      have AG : w.heap.size + 1 + 1 + 1 ≠ gt := AW.out.1 _ (.tail _ (.tail _ (.tail _ (.head _))))
      have AH : w.heap.size ≠ gt := AW.out.1 _ (.tail _ (.tail _ (.tail _ (.tail _ (.tail _ (.tail _ (.head _)))))))
      have hcE := BZ.out.cells (.tail _ (.tail _ (.tail _ (.tail _ (.tail _ (.tail _ (.head _)))))))
      have hcT := fun o => blk_cell TZ.out o
      have hRz := BZ.out.box _ (.tail _ (.tail _ (.tail _ (.head _))))
      go_wp2_with ((with_reducible refine wpList_store_row (o := ⟨none, _, _, _, _, _⟩) rfl 46 (.tmp 6) (.tmp 140) rfl (w.heap.size + 1 + 1 + 1) (#[.int .i64 e.ow, .int .i64 e.s.c, .int .i64 e.s.m, .slice p e.s.l.length cap, .bool e.s.al, .slice (some ⟨gs, 0, none⟩) 1 1, .bool false]) ?sx ?sy 46 ztc ?sg ?si ?so ?s1 ?_); (case sx => rfl); (case sy => rfl); (case sg => exact hRz); (case si => kernel_rfl); (case so => rfl); (case s1 => kernel_rfl))
      rw [HRES.out]
      have HB := below_setRow BZ.out.below (show w.heap.size ≤ w.heap.size + 1 + 1 + 1 by omega) (#[.int .i64 e.ow, .int .i64 e.s.c, .int .i64 e.s.m, .slice p e.s.l.length cap, .bool e.s.al, .slice (some ⟨gs, 0, none⟩) 1 1, .bool false])
      exact turnR_ret (t := ⟨e, [⟨10, m.ln, m.to, m.fr, 0, 0, 0, 0, 0, 0, 0, 0, 0, 0, 0⟩], false⟩) (p := p) (cap := cap) (q := some ⟨gs, 0, none⟩) (qc := 1) Try.results10 rfl rfl rfl (setRow_heap _ _ _ _ _ _ hRz) (HN.out.step HB) (MZ.out.rowOf _ (MsIn.apart MZ.out hRz) _) HB _ _ (.inl ⟨rfl, rfl⟩)
    · skip
      go_simp
      have hbb := balloc W1 (.cells (ztc) 46)
      have hnew := heap_alloc_new W1 (.cells (ztc) 46)
      generalize hWq : W1.alloc (.cells (ztc) 46) = W2 at hbb hnew
      have B8 := Lib.hid (B7.out.step hbb)
      have T2 := Lib.hid hnew
      have AW := Lib.hid B7.out.fresh
      clear hnew
      show K _ _
      refine hK.out _ _ B8.out.six (fun hh3 => ?_)
      clear hK K hh4 hbb hWq
      try simp only [Act.put, List.setIfInBounds_toArray, List.set_cons_zero, List.set_cons_succ]
      refine wpAnyH_ready (fuel := 2) (rs := [5]) (by kernel_rfl) (by simp) ?_
      refine AllReadyH.cons (o := ⟨some 131, _, _, _, _, _⟩) rfl (fun K hK => ?_) AllReadyH.nil
      go_simp
      have hbb := balloc W2 (.cells (rcells m 10 m.fr 0 0 0 w0) 30)
      have hlit := MsIn.lit (w := W2) (L := [⟨10, m.ln, m.to, m.fr, 0, 0, 0, 0, 0, 0, 0, 0, 0, 0, 0⟩]) (A := rcells m 10 m.fr 0 0 0 w0) 30 rfl
      generalize hWq : W2.alloc (.cells (rcells m 10 m.fr 0 0 0 w0) 30) = W3 at hbb hlit
      have B9 := Lib.hid (B8.out.step hbb)
      have T3 := Lib.hid ((hbb.block _ (lt_of_block T2.out)).trans T2.out)
      have M3 := Lib.hid hlit
      have NE : Hid (W2.heap.size ≠ W1.heap.size) := Lib.hid (by have := lt_of_block T2.out; omega)
      clear hlit
      show K _ _
      refine hK.out _ _ B9.out.six (fun hh2 => ?_)
      clear hK K hh3 hbb hWq
      try simp only [Act.put, List.setIfInBounds_toArray, List.set_cons_zero, List.set_cons_succ]
      refine wpAnyH_take (fuel := 1) (i := 6) (oi := ⟨some 132, _, _, _, _, _⟩) (v := .agg #[.int .i64 e.ow, .int .i64 e.s.c, .int .i64 e.s.m, .slice p e.s.l.length cap, .bool e.s.al, .slice (some ⟨W2.heap.size, 0, none⟩) 1 1, .bool false]) rfl (by kernel_rfl) (by kernel_rfl) (by kernel_rfl) (fun _ _ _ h => h) (Or.inl ⟨by rfl, ?_⟩) hh2 ?_
      · rintro w' ⟨cE, cM, cW, cZ, cC, cA⟩
        go_simp
      simp only [Act.put, List.setIfInBounds_toArray, List.set_cons_zero, List.set_cons_succ]
      refine wpAnyH_ready (fuel := 0) (rs := [8]) (by kernel_rfl) (by simp) ?_
      refine AllReadyH.cons (o := ⟨none, _, _, _, _, _⟩) rfl (fun K hK => ?_) AllReadyH.nil
      rw [if_pos (by rfl)]
      refine wp_store_row 46 (.tmp 13) (.tmp 132) rfl (W1.heap.size) (#[.int .i64 e.ow, .int .i64 e.s.c, .int .i64 e.s.m, .slice p e.s.l.length cap, .bool e.s.al, .slice (some ⟨W2.heap.size, 0, none⟩) 1 1, .bool false]) rfl rfl 46 ztc T3.out (by kernel_rfl) rfl (by kernel_rfl) ?_
      have BZ := Lib.hid (B9.out.away AW.out.1 AW.out.2 (#[.int .i64 e.ow, .int .i64 e.s.c, .int .i64 e.s.m, .slice p e.s.l.length cap, .bool e.s.al, .slice (some ⟨W2.heap.size, 0, none⟩) 1 1, .bool false]))
      have TZ := Lib.hid (setRow_heap _ (W1.heap.size) _ (#[.int .i64 e.ow, .int .i64 e.s.c, .int .i64 e.s.m, .slice p e.s.l.length cap, .bool e.s.al, .slice (some ⟨W2.heap.size, 0, none⟩) 1 1, .bool false]) 46 (0, 0) T3.out)
      have MZ := Lib.hid (M3.out.rowOf (W1.heap.size) NE.out (#[.int .i64 e.ow, .int .i64 e.s.c, .int .i64 e.s.m, .slice p e.s.l.length cap, .bool e.s.al, .slice (some ⟨W2.heap.size, 0, none⟩) 1 1, .bool false]))
      refine hK.out _ _ BZ.out.six (fun hhz => ?_)
      clear hK K hh2
      simp only [Act.put]
      refine wpAnyH_done (by kernel_rfl) ?_ _
      refine NoPanic.normal ?_
      clear hhz
      generalize World.setRow _ _ _ = W9 at BZ TZ MZ ⊢
      generalize (W2.heap.size) = gs at *
      generalize (W1.heap.size) = gt at *
      have AG : w.heap.size + 1 + 1 + 1 ≠ gt := AW.out.1 _ (.tail _ (.tail _ (.tail _ (.head _))))
      have AH : w.heap.size ≠ gt := AW.out.1 _ (.tail _ (.tail _ (.tail _ (.tail _ (.tail _ (.tail _ (.head _)))))))
      have hcE := BZ.out.cells (.tail _ (.tail _ (.tail _ (.tail _ (.tail _ (.tail _ (.head _)))))))
      have hcT := fun o => blk_cell TZ.out o
      have hRz := BZ.out.box _ (.tail _ (.tail _ (.tail _ (.head _))))
      go_wp2_with ((with_reducible refine wpList_store_row (o := ⟨none, _, _, _, _, _⟩) rfl 46 (.tmp 6) (.tmp 140) rfl (w.heap.size + 1 + 1 + 1) (#[.int .i64 e.ow, .int .i64 e.s.c, .int .i64 e.s.m, .slice p e.s.l.length cap, .bool e.s.al, .slice (some ⟨gs, 0, none⟩) 1 1, .bool false]) ?sx ?sy 46 ztc ?sg ?si ?so ?s1 ?_); (case sx => rfl); (case sy => rfl); (case sg => exact hRz); (case si => kernel_rfl); (case so => rfl); (case s1 => kernel_rfl))
      rw [HRES.out]
      have HB := below_setRow BZ.out.below (show w.heap.size ≤ w.heap.size + 1 + 1 + 1 by omega) (#[.int .i64 e.ow, .int .i64 e.s.c, .int .i64 e.s.m, .slice p e.s.l.length cap, .bool e.s.al, .slice (some ⟨gs, 0, none⟩) 1 1, .bool false])
      exact turnR_ret (t := ⟨e, [⟨10, m.ln, m.to, m.fr, 0, 0, 0, 0, 0, 0, 0, 0, 0, 0, 0⟩], false⟩) (p := p) (cap := cap) (q := some ⟨gs, 0, none⟩) (qc := 1) Try.results10 rfl rfl rfl (setRow_heap _ _ _ _ _ _ hRz) (HN.out.step HB) (MZ.out.rowOf _ (MsIn.apart MZ.out hRz) _) HB _ _ (.inl ⟨rfl, rfl⟩)
  · skip
    go_simp
    have hbb := balloc W0 (.cells (ztc) 46)
    have hnew := heap_alloc_new W0 (.cells (ztc) 46)
    generalize hWq : W0.alloc (.cells (ztc) 46) = W1 at hbb hnew
    have B7 := Lib.hid (B6.out.step hbb)
    have T1 := Lib.hid hnew
    have AW := Lib.hid B6.out.fresh
    clear hnew
    show K _ _
    refine hK.out _ _ B7.out.six (fun hh4 => ?_)
    clear hK K hh hbb hWq
    try simp only [Act.put, List.setIfInBounds_toArray, List.set_cons_zero, List.set_cons_succ]
    refine wpAnyH_ready (fuel := 3) (rs := [4]) (by kernel_rfl) (by simp) ?_
    refine AllReadyH.cons (o := ⟨some 130, _, _, _, _, _⟩) rfl (fun K hK => ?_) AllReadyH.nil
    go_simp
    refine (rmsg_any m 10 m.fr 0 0 0 w0 _).mono ?_
    rintro _ W2 ⟨rfl, hbb⟩
    have B8 := Lib.hid (B7.out.step hbb)
    have T2 := Lib.hid ((hbb.block _ (lt_of_block T1.out)).trans T1.out)
    show K _ _
    refine hK.out _ _ B8.out.six (fun hh3 => ?_)
    clear hK K hh4 hbb
    try simp only [Act.put, List.setIfInBounds_toArray, List.set_cons_zero, List.set_cons_succ]
    refine wpAnyH_ready (fuel := 2) (rs := [5]) (by kernel_rfl) (by simp) ?_
    refine AllReadyH.cons (o := ⟨some 131, _, _, _, _, _⟩) rfl (fun K hK => ?_) AllReadyH.nil
    go_simp
    have hbb := balloc W2 (.cells (rcells m 10 m.fr 0 0 0 w0) 30)
    have hlit := MsIn.lit (w := W2) (L := [⟨10, m.ln, m.to, m.fr, 0, 0, 0, 0, 0, 0, 0, 0, 0, 0, 0⟩]) (A := rcells m 10 m.fr 0 0 0 w0) 30 rfl
    generalize hWq : W2.alloc (.cells (rcells m 10 m.fr 0 0 0 w0) 30) = W3 at hbb hlit
    have B9 := Lib.hid (B8.out.step hbb)
    have T3 := Lib.hid ((hbb.block _ (lt_of_block T2.out)).trans T2.out)
    have M3 := Lib.hid hlit
    have NE : Hid (W2.heap.size ≠ W0.heap.size) := Lib.hid (by have := lt_of_block T2.out; omega)
    clear hlit
    show K _ _
    refine hK.out _ _ B9.out.six (fun hh2 => ?_)
    clear hK K hh3 hbb hWq
    try simp only [Act.put, List.setIfInBounds_toArray, List.set_cons_zero, List.set_cons_succ]
    refine wpAnyH_take (fuel := 1) (i := 6) (oi := ⟨some 132, _, _, _, _, _⟩) (v := .agg #[.int .i64 e.ow, .int .i64 e.s.c, .int .i64 e.s.m, .slice p e.s.l.length cap, .bool e.s.al, .slice (some ⟨W2.heap.size, 0, none⟩) 1 1, .bool false]) rfl (by kernel_rfl) (by kernel_rfl) (by kernel_rfl) (fun _ _ _ h => h) (Or.inl ⟨by rfl, ?_⟩) hh2 ?_
    · rintro w' ⟨cE, cM, cW, cZ, cC, cA⟩
      go_simp
    simp only [Act.put, List.setIfInBounds_toArray, List.set_cons_zero, List.set_cons_succ]
    refine wpAnyH_ready (fuel := 0) (rs := [8]) (by kernel_rfl) (by simp) ?_
    refine AllReadyH.cons (o := ⟨none, _, _, _, _, _⟩) rfl (fun K hK => ?_) AllReadyH.nil
    rw [if_pos (by rfl)]
    refine wp_store_row 46 (.tmp 13) (.tmp 132) rfl (W0.heap.size) (#[.int .i64 e.ow, .int .i64 e.s.c, .int .i64 e.s.m, .slice p e.s.l.length cap, .bool e.s.al, .slice (some ⟨W2.heap.size, 0, none⟩) 1 1, .bool false]) rfl rfl 46 ztc T3.out (by kernel_rfl) rfl (by kernel_rfl) ?_
    have BZ := Lib.hid (B9.out.away AW.out.1 AW.out.2 (#[.int .i64 e.ow, .int .i64 e.s.c, .int .i64 e.s.m, .slice p e.s.l.length cap, .bool e.s.al, .slice (some ⟨W2.heap.size, 0, none⟩) 1 1, .bool false]))
    have TZ := Lib.hid (setRow_heap _ (W0.heap.size) _ (#[.int .i64 e.ow, .int .i64 e.s.c, .int .i64 e.s.m, .slice p e.s.l.length cap, .bool e.s.al, .slice (some ⟨W2.heap.size, 0, none⟩) 1 1, .bool false]) 46 (0, 0) T3.out)
    have MZ := Lib.hid (M3.out.rowOf (W0.heap.size) NE.out (#[.int .i64 e.ow, .int .i64 e.s.c, .int .i64 e.s.m, .slice p e.s.l.length cap, .bool e.s.al, .slice (some ⟨W2.heap.size, 0, none⟩) 1 1, .bool false]))
    refine hK.out _ _ BZ.out.six (fun hhz => ?_)
    clear hK K hh2
    simp only [Act.put]
    refine wpAnyH_done (by kernel_rfl) ?_ _
    refine NoPanic.normal ?_
    clear hhz
    generalize World.setRow _ _ _ = W9 at BZ TZ MZ ⊢
    generalize (W2.heap.size) = gs at *
    generalize (W0.heap.size) = gt at *
    have AG : w.heap.size + 1 + 1 + 1 ≠ gt := AW.out.1 _ (.tail _ (.tail _ (.tail _ (.head _))))
    have AH : w.heap.size ≠ gt := AW.out.1 _ (.tail _ (.tail _ (.tail _ (.tail _ (.tail _ (.tail _ (.head _)))))))
    have hcE := BZ.out.cells (.tail _ (.tail _ (.tail _ (.tail _ (.tail _ (.tail _ (.head _)))))))
    have hcT := fun o => blk_cell TZ.out o
    have hRz := BZ.out.box _ (.tail _ (.tail _ (.tail _ (.head _))))
    go_wp2_with ((with_reducible refine wpList_store_row (o := ⟨none, _, _, _, _, _⟩) rfl 46 (.tmp 6) (.tmp 140) rfl (w.heap.size + 1 + 1 + 1) (#[.int .i64 e.ow, .int .i64 e.s.c, .int .i64 e.s.m, .slice p e.s.l.length cap, .bool e.s.al, .slice (some ⟨gs, 0, none⟩) 1 1, .bool false]) ?sx ?sy 46 ztc ?sg ?si ?so ?s1 ?_); (case sx => rfl); (case sy => rfl); (case sg => exact hRz); (case si => kernel_rfl); (case so => rfl); (case s1 => kernel_rfl))
    rw [HRES.out]
    have HB := below_setRow BZ.out.below (show w.heap.size ≤ w.heap.size + 1 + 1 + 1 by omega) (#[.int .i64 e.ow, .int .i64 e.s.c, .int .i64 e.s.m, .slice p e.s.l.length cap, .bool e.s.al, .slice (some ⟨gs, 0, none⟩) 1 1, .bool false])
    exact turnR_ret (t := ⟨e, [⟨10, m.ln, m.to, m.fr, 0, 0, 0, 0, 0, 0, 0, 0, 0, 0, 0⟩], false⟩) (p := p) (cap := cap) (q := some ⟨gs, 0, none⟩) (qc := 1) Try.results10 rfl rfl rfl (setRow_heap _ _ _ _ _ _ hRz) (HN.out.step HB) (MZ.out.rowOf _ (MsIn.apart MZ.out hRz) _) HB _ _ (.inl ⟨rfl, rfl⟩)

set_option maxRecDepth 100000 in
set_option maxHeartbeats 16000000 in
theorem rnext_putO (e : En) (p : Option Addr) (cap : Nat) (m : Msg) (v : W8) (w : World) (hl : e.s.l.length ≤ 5000) (hn : NumsIn w p e.s.l) (hg : goodQ e m = true) (hk : m.kd = 3) (h2 : e.ow = m.fr) :
    Calls Try.prog 10 #[ev e p cap, mv m, .agg (wcells v)] w (GaveT2 w (nextT e m v).1 (nextT e m v).2 p e.s.l) := by
  have B0 := Bx.four w (ecells e p cap) (mcells m) (wcells v) ztc 37 30 28 46
  have HN := Lib.hid hn
  obtain ⟨g1, g2, g3⟩ := good_all hg
  obtain ⟨s1, s2, s3⟩ := may_parts g1
  have HM := Lib.hid g1
  have ha : addS e.s m.fr = (withS e.s m.fr, 0) := by unfold addS; rw [if_pos s1, if_pos g3]
  have HA := Lib.hid ha
  have k1 : decide (m.kd < 1) = false := by simp [isReq] at g2; simp; omega
  have k2 : decide (3 < m.kd) = false := by simp [isReq] at g2; simp; omega
  obtain ⟨r1, r2⟩ := hasB_iff.1 g3
  have k3 : decide (m.fr < 0) = false := by simp; omega
  have k4 : decide (e.s.c ≤ m.fr) = false := by simp; omega
  have q1 : (m.kd == 1) = false := by simp; omega
  have q3 : (m.kd == 3) = true := by simpa using hk
  have q4 : (e.ow == m.fr) = true := by simpa using h2
  have HRES : Hid (nextT e m v = (⟨⟨-1, e.s⟩, [⟨10, m.ln, m.to, m.fr, 0, 0, 0, 0, 0, 0, 0, 0, 0, 0, 0⟩], true⟩, 0)) := Lib.hid (by
    rw [next_leave hg (by omega) (by omega)]
    unfold leaveT
    rw [if_pos h2]
    rfl)
  clear hn hg g1 g2 g3 s1 s2 s3 ha r1 r2 hk h2
  go_enter Try.func10, Try.ntmps10
  go_wp2_with (first
    | (go_at_call 14; refine (rmay_is HM.out p cap _ (by omega) (HN.out.step B0.below)).mono ?_; rintro _ w1 ⟨rfl, hb1⟩; have B1 := B0.step hb1; have hcE := B1.cells (.tail _ (.tail _ (.tail _ (.head _)))); have hcM := B1.cells (.tail _ (.tail _ (.head _))); clear hb1; have l0 : w.heap.size < w1.heap.size := lt_of_block (B1.box _ (.tail _ (.tail _ (.tail _ (.head _))))); have l1 : w.heap.size + 1 < w1.heap.size := lt_of_block (B1.box _ (.tail _ (.tail _ (.head _)))); have B2 := B1.add zw 28; have B3 := B2.addAt (sv e.s.c e.s.m none 0 0 false) 35 (w1.heap.size + 1) (by simp))
    | (go_at_call 23; refine (radd_is HA.out p cap _ (HN.out.step B3.below) hl).mono ?_; rintro _ w4 ⟨pa, ca, rfl, hi4, hb4, ho4⟩; have B4 := B3.step hb4; generalize withS e.s m.fr = s' at *; have B5 := B4.addAt (sval s' pa ca) 35 w4.heap.size rfl; have HPA := Lib.hid (hi4.step (balloc w4 (.cells (sval s' pa ca) 35))); have hz5 : (w4.alloc (.cells (sval s' pa ca) 35)).heap.size = w4.heap.size + 1 := (by simp); have hgz : w.heap.size + 1 + 1 + 1 < w1.heap.size := lt_of_block (B1.box _ (.head _)); have hga : w.heap.size + 1 + 1 + 1 < w4.heap.size := lt_of_block (B4.box _ (.tail _ (.tail _ (.head _)))); have HPF := Lib.hid (apart_row (r := w.heap.size + 1 + 1 + 1) HN.out ho4 (by omega) (by simp; omega)); have HPO := Lib.hid (old_or ho4 B3.below.size); clear hb4 hi4 ho4 hcE hcM l0 l1 B0 B1 B2 B3 B4 HA; generalize w1.heap.size = gz at *; have hcE := B5.cells (.tail _ (.tail _ (.tail _ (.tail _ (.tail _ (.tail _ (.head _))))))); have hcM := B5.cells (.tail _ (.tail _ (.tail _ (.tail _ (.tail _ (.head _)))))); have hcW := B5.cells (.tail _ (.tail _ (.tail _ (.tail _ (.head _))))); have hcZ := B5.cells (.tail _ (.tail _ (.head _))); have hcC := B5.cells (.tail _ (.head _)); have hcA := B5.cells (.head _)))
  generalize World.alloc w4 _ = w5 at *
  generalize w4.heap.size = ga at *
  have B6 := Lib.hid (B5.step (below_drew _))
  clear hcE hcM hcW hcZ hcC hcA B5
  generalize hW0 : w5.drew = W0 at B6
  refine wp_region_noPanic ?_
  refine wp_region_held_drew (S := fun w' => (∀ o, w'.cell? ⟨w.heap.size, o, none⟩ = (ecells e p cap)[o]?) ∧ (∀ o, w'.cell? ⟨w.heap.size + 1, o, none⟩ = (mcells m)[o]?) ∧ (∀ o, w'.cell? ⟨w.heap.size + 1 + 1, o, none⟩ = (wcells v)[o]?) ∧ (∀ o, w'.cell? ⟨gz, o, none⟩ = zw[o]?) ∧ (∀ o, w'.cell? ⟨gz + 1, o, none⟩ = (sv e.s.c e.s.m none 0 0 false)[o]?) ∧ (∀ o, w'.cell? ⟨ga, o, none⟩ = (sval s' pa ca)[o]?)) (by kernel_rfl) (by rw [hW0]; exact B6.out.six) (fun hh => ?_)
  rw [hW0] at hh ⊢
  refine wpAnyH_take (fuel := 8) (i := 0) (oi := ⟨some 126, _, _, _, _, _⟩) (v := .agg (ecells e p cap)) rfl (by kernel_rfl) (by kernel_rfl) (by kernel_rfl) (fun _ _ _ h => h) (Or.inl ⟨by rfl, ?_⟩) hh ?_
  · rintro w' ⟨cE, cM, cW, cZ, cC, cA⟩
    go_simp
  simp only [Act.put, List.setIfInBounds_toArray, List.set_cons_zero, List.set_cons_succ]
  refine wpAnyH_take (fuel := 7) (i := 1) (oi := ⟨some 127, _, _, _, _, _⟩) (v := .agg (mcells m)) rfl (by kernel_rfl) (by kernel_rfl) (by kernel_rfl) (fun _ _ _ h => h) (yields_load_at (by rfl) 30 (.tmp 4) rfl (w.heap.size + 1) 0 rfl (mcells m) _ (fun w' ⟨_, c0, _⟩ => range_of c0) Try.underlying30 rfl (by kernel_rfl)) hh ?_
  simp only [Act.put, List.setIfInBounds_toArray, List.set_cons_zero, List.set_cons_succ]
  refine wpAnyH_take (fuel := 6) (i := 2) (oi := ⟨some 128, _, _, _, _, _⟩) (v := .int .i64 m.fr) rfl (by kernel_rfl) (by kernel_rfl) (by kernel_rfl) (fun _ _ _ h => h) (Or.inl ⟨by rfl, ?_⟩) hh ?_
  · rintro w' ⟨cE, cM, cW, cZ, cC, cA⟩
    go_simp
  simp only [Act.put, List.setIfInBounds_toArray, List.set_cons_zero, List.set_cons_succ]
  refine wpAnyH_take (fuel := 5) (i := 3) (oi := ⟨some 129, _, _, _, _, _⟩) (v := .agg zw) rfl (by kernel_rfl) (by kernel_rfl) (by kernel_rfl) (fun _ _ _ h => h) (Or.inl ⟨by rfl, ?_⟩) hh ?_
  · rintro w' ⟨cE, cM, cW, cZ, cC, cA⟩
    go_simp
  simp only [Act.put, List.setIfInBounds_toArray, List.set_cons_zero, List.set_cons_succ]
  refine wpAnyH_ready (fuel := 4) (rs := [4, 7]) (by kernel_rfl) (by simp) ?_
  refine AllReadyH.cons (o := ⟨some 130, _, _, _, _, _⟩) rfl (fun K hK => ?_) (AllReadyH.cons (o := ⟨some 13, _, _, _, _, _⟩) rfl (fun K hK => ?_) AllReadyH.nil)
  · skip
    go_simp
    refine (rmsg_any m 10 m.fr 0 0 0 w0 _).mono ?_
    rintro _ W1 ⟨rfl, hbb⟩
    have B7 := Lib.hid (B6.out.step hbb)
    show K _ _
    refine hK.out _ _ B7.out.six (fun hh4 => ?_)
    clear hK K hh hbb
    try simp only [Act.put, List.setIfInBounds_toArray, List.set_cons_zero, List.set_cons_succ]
    refine wpAnyH_ready (fuel := 3) (rs := [5, 7]) (by kernel_rfl) (by simp) ?_
    refine AllReadyH.cons (o := ⟨some 131, _, _, _, _, _⟩) rfl (fun K hK => ?_) (AllReadyH.cons (o := ⟨some 13, _, _, _, _, _⟩) rfl (fun K hK => ?_) AllReadyH.nil)
    · skip
      go_simp
      have hbb := balloc W1 (.cells (rcells m 10 m.fr 0 0 0 w0) 30)
      have hlit := MsIn.lit (w := W1) (L := [⟨10, m.ln, m.to, m.fr, 0, 0, 0, 0, 0, 0, 0, 0, 0, 0, 0⟩]) (A := rcells m 10 m.fr 0 0 0 w0) 30 rfl
      generalize hWq : W1.alloc (.cells (rcells m 10 m.fr 0 0 0 w0) 30) = W2 at hbb hlit
      have B8 := Lib.hid (B7.out.step hbb)
      have M2 := Lib.hid hlit
      clear hlit
      show K _ _
      refine hK.out _ _ B8.out.six (fun hh3 => ?_)
      clear hK K hh4 hbb hWq
      try simp only [Act.put, List.setIfInBounds_toArray, List.set_cons_zero, List.set_cons_succ]
      refine wpAnyH_take (fuel := 2) (i := 6) (oi := ⟨some 132, _, _, _, _, _⟩) (v := .agg #[.int .i64 e.ow, .int .i64 e.s.c, .int .i64 e.s.m, .slice p e.s.l.length cap, .bool e.s.al, .slice (some ⟨W1.heap.size, 0, none⟩) 1 1, .bool false]) rfl (by kernel_rfl) (by kernel_rfl) (by kernel_rfl) (fun _ _ _ h => h) (Or.inl ⟨by rfl, ?_⟩) hh3 ?_
      · rintro w' ⟨cE, cM, cW, cZ, cC, cA⟩
        go_simp
      simp only [Act.put, List.setIfInBounds_toArray, List.set_cons_zero, List.set_cons_succ]
      refine wpAnyH_ready (fuel := 1) (rs := [7]) (by kernel_rfl) (by simp) ?_
      refine AllReadyH.cons (o := ⟨some 13, _, _, _, _, _⟩) rfl (fun K hK => ?_) AllReadyH.nil
      go_simp
      have hbb := balloc W2 (.cells (ztc) 46)
      have hnew := heap_alloc_new W2 (.cells (ztc) 46)
      generalize hWq : W2.alloc (.cells (ztc) 46) = W3 at hbb hnew
      have B9 := Lib.hid (B8.out.step hbb)
      have M3 := Lib.hid (M2.out.step hbb)
      have T3 := Lib.hid hnew
      have AW := Lib.hid B8.out.fresh
      have NE : Hid (W1.heap.size ≠ W2.heap.size) := Lib.hid (by obtain ⟨k, e, hk, -⟩ := M2.out 0 _ rfl; cases e; omega)
      clear hnew
      show K _ _
      refine hK.out _ _ B9.out.six (fun hh1 => ?_)
      clear hK K hh3 hbb hWq
      try simp only [Act.put, List.setIfInBounds_toArray, List.set_cons_zero, List.set_cons_succ]
      refine wpAnyH_ready (fuel := 0) (rs := [8]) (by kernel_rfl) (by simp) ?_
      refine AllReadyH.cons (o := ⟨none, _, _, _, _, _⟩) rfl (fun K hK => ?_) AllReadyH.nil
      rw [if_pos (by rfl)]
      refine wp_store_row 46 (.tmp 13) (.tmp 132) rfl (W2.heap.size) (#[.int .i64 e.ow, .int .i64 e.s.c, .int .i64 e.s.m, .slice p e.s.l.length cap, .bool e.s.al, .slice (some ⟨W1.heap.size, 0, none⟩) 1 1, .bool false]) rfl rfl 46 ztc T3.out (by kernel_rfl) rfl (by kernel_rfl) ?_
      have BZ := Lib.hid (B9.out.away AW.out.1 AW.out.2 (#[.int .i64 e.ow, .int .i64 e.s.c, .int .i64 e.s.m, .slice p e.s.l.length cap, .bool e.s.al, .slice (some ⟨W1.heap.size, 0, none⟩) 1 1, .bool false]))
      have TZ := Lib.hid (setRow_heap _ (W2.heap.size) _ (#[.int .i64 e.ow, .int .i64 e.s.c, .int .i64 e.s.m, .slice p e.s.l.length cap, .bool e.s.al, .slice (some ⟨W1.heap.size, 0, none⟩) 1 1, .bool false]) 46 (0, 0) T3.out)
      have MZ := Lib.hid (M3.out.rowOf (W2.heap.size) NE.out (#[.int .i64 e.ow, .int .i64 e.s.c, .int .i64 e.s.m, .slice p e.s.l.length cap, .bool e.s.al, .slice (some ⟨W1.heap.size, 0, none⟩) 1 1, .bool false]))
      refine hK.out _ _ BZ.out.six (fun hhz => ?_)
      clear hK K hh1
      simp only [Act.put]
      refine wpAnyH_done (by kernel_rfl) ?_ _
      refine NoPanic.normal ?_
      clear hhz
      generalize World.setRow _ _ _ = W9 at BZ TZ MZ ⊢
      generalize (W1.heap.size) = gs at *
      generalize (W2.heap.size) = gt at *
      have AG : w.heap.size + 1 + 1 + 1 ≠ gt := AW.out.1 _ (.tail _ (.tail _ (.tail _ (.head _))))
      have AH : w.heap.size ≠ gt := AW.out.1 _ (.tail _ (.tail _ (.tail _ (.tail _ (.tail _ (.tail _ (.head _)))))))
      have hcE := BZ.out.cells (.tail _ (.tail _ (.tail _ (.tail _ (.tail _ (.tail _ (.head _)))))))
      have hcT := fun o => blk_cell TZ.out o
      have hRz := BZ.out.box _ (.tail _ (.tail _ (.tail _ (.head _))))
      have s1 := Stb.one TZ.out 0 (.int .i64 (-1))
      have s2 := Stb.one s1.blk 6 (.bool true)
      have f0 := blk_free TZ.out 0
      have f6 := blk_free s1.blk 6
      have hc2 := fun o => blk_cell s2.blk o
      have hR2 := ((s1.trans s2).other _ AG).trans hRz
      have HB2 := BZ.out.below.trans ((s1.trans s2).below.mono AW.out.2)
      have M2z := MZ.out.set1 (i := 0) (u := .int .i64 (-1)) (r := gt) NE.out |>.set1 (i := 6) (u := .bool true) (r := gt) NE.out
      have M2z := Lib.hid M2z
      have HB2 := Lib.hid HB2
      clear s1 s2 BZ TZ MZ
      go_wp2_with ((with_reducible refine wpList_store_row (o := ⟨none, _, _, _, _, _⟩) rfl 46 (.tmp 6) (.tmp 140) rfl (w.heap.size + 1 + 1 + 1) (#[.int .i64 (-1), .int .i64 e.s.c, .int .i64 e.s.m, .slice p e.s.l.length cap, .bool e.s.al, .slice (some ⟨gs, 0, none⟩) 1 1, .bool true]) ?sx ?sy 46 ztc ?sg ?si ?so ?s1 ?_); (case sx => rfl); (case sy => rfl); (case sg => exact hR2); (case si => kernel_rfl); (case so => rfl); (case s1 => kernel_rfl))
      rw [HRES.out]
      have HB := below_setRow HB2.out (show w.heap.size ≤ w.heap.size + 1 + 1 + 1 by omega) (#[.int .i64 (-1), .int .i64 e.s.c, .int .i64 e.s.m, .slice p e.s.l.length cap, .bool e.s.al, .slice (some ⟨gs, 0, none⟩) 1 1, .bool true])
      exact turnR_ret (t := ⟨⟨-1, e.s⟩, [⟨10, m.ln, m.to, m.fr, 0, 0, 0, 0, 0, 0, 0, 0, 0, 0, 0⟩], true⟩) (p := p) (cap := cap) (q := some ⟨gs, 0, none⟩) (qc := 1) Try.results10 rfl rfl rfl (setRow_heap _ _ _ _ _ _ hR2) (HN.out.step HB) (M2z.out.rowOf _ (MsIn.apart M2z.out hR2) _) HB _ _ (.inl ⟨rfl, rfl⟩)
    · skip
      go_simp
      have hbb := balloc W1 (.cells (ztc) 46)
      have hnew := heap_alloc_new W1 (.cells (ztc) 46)
      generalize hWq : W1.alloc (.cells (ztc) 46) = W2 at hbb hnew
      have B8 := Lib.hid (B7.out.step hbb)
      have T2 := Lib.hid hnew
      have AW := Lib.hid B7.out.fresh
      clear hnew
      show K _ _
      refine hK.out _ _ B8.out.six (fun hh3 => ?_)
      clear hK K hh4 hbb hWq
      try simp only [Act.put, List.setIfInBounds_toArray, List.set_cons_zero, List.set_cons_succ]
      refine wpAnyH_ready (fuel := 2) (rs := [5]) (by kernel_rfl) (by simp) ?_
      refine AllReadyH.cons (o := ⟨some 131, _, _, _, _, _⟩) rfl (fun K hK => ?_) AllReadyH.nil
      go_simp
      have hbb := balloc W2 (.cells (rcells m 10 m.fr 0 0 0 w0) 30)
      have hlit := MsIn.lit (w := W2) (L := [⟨10, m.ln, m.to, m.fr, 0, 0, 0, 0, 0, 0, 0, 0, 0, 0, 0⟩]) (A := rcells m 10 m.fr 0 0 0 w0) 30 rfl
      generalize hWq : W2.alloc (.cells (rcells m 10 m.fr 0 0 0 w0) 30) = W3 at hbb hlit
      have B9 := Lib.hid (B8.out.step hbb)
      have T3 := Lib.hid ((hbb.block _ (lt_of_block T2.out)).trans T2.out)
      have M3 := Lib.hid hlit
      have NE : Hid (W2.heap.size ≠ W1.heap.size) := Lib.hid (by have := lt_of_block T2.out; omega)
      clear hlit
      show K _ _
      refine hK.out _ _ B9.out.six (fun hh2 => ?_)
      clear hK K hh3 hbb hWq
      try simp only [Act.put, List.setIfInBounds_toArray, List.set_cons_zero, List.set_cons_succ]
      refine wpAnyH_take (fuel := 1) (i := 6) (oi := ⟨some 132, _, _, _, _, _⟩) (v := .agg #[.int .i64 e.ow, .int .i64 e.s.c, .int .i64 e.s.m, .slice p e.s.l.length cap, .bool e.s.al, .slice (some ⟨W2.heap.size, 0, none⟩) 1 1, .bool false]) rfl (by kernel_rfl) (by kernel_rfl) (by kernel_rfl) (fun _ _ _ h => h) (Or.inl ⟨by rfl, ?_⟩) hh2 ?_
      · rintro w' ⟨cE, cM, cW, cZ, cC, cA⟩
        go_simp
      simp only [Act.put, List.setIfInBounds_toArray, List.set_cons_zero, List.set_cons_succ]
      refine wpAnyH_ready (fuel := 0) (rs := [8]) (by kernel_rfl) (by simp) ?_
      refine AllReadyH.cons (o := ⟨none, _, _, _, _, _⟩) rfl (fun K hK => ?_) AllReadyH.nil
      rw [if_pos (by rfl)]
      refine wp_store_row 46 (.tmp 13) (.tmp 132) rfl (W1.heap.size) (#[.int .i64 e.ow, .int .i64 e.s.c, .int .i64 e.s.m, .slice p e.s.l.length cap, .bool e.s.al, .slice (some ⟨W2.heap.size, 0, none⟩) 1 1, .bool false]) rfl rfl 46 ztc T3.out (by kernel_rfl) rfl (by kernel_rfl) ?_
      have BZ := Lib.hid (B9.out.away AW.out.1 AW.out.2 (#[.int .i64 e.ow, .int .i64 e.s.c, .int .i64 e.s.m, .slice p e.s.l.length cap, .bool e.s.al, .slice (some ⟨W2.heap.size, 0, none⟩) 1 1, .bool false]))
      have TZ := Lib.hid (setRow_heap _ (W1.heap.size) _ (#[.int .i64 e.ow, .int .i64 e.s.c, .int .i64 e.s.m, .slice p e.s.l.length cap, .bool e.s.al, .slice (some ⟨W2.heap.size, 0, none⟩) 1 1, .bool false]) 46 (0, 0) T3.out)
      have MZ := Lib.hid (M3.out.rowOf (W1.heap.size) NE.out (#[.int .i64 e.ow, .int .i64 e.s.c, .int .i64 e.s.m, .slice p e.s.l.length cap, .bool e.s.al, .slice (some ⟨W2.heap.size, 0, none⟩) 1 1, .bool false]))
      refine hK.out _ _ BZ.out.six (fun hhz => ?_)
      clear hK K hh2
      simp only [Act.put]
      refine wpAnyH_done (by kernel_rfl) ?_ _
      refine NoPanic.normal ?_
      clear hhz
      generalize World.setRow _ _ _ = W9 at BZ TZ MZ ⊢
      generalize (W2.heap.size) = gs at *
      generalize (W1.heap.size) = gt at *
      have AG : w.heap.size + 1 + 1 + 1 ≠ gt := AW.out.1 _ (.tail _ (.tail _ (.tail _ (.head _))))
      have AH : w.heap.size ≠ gt := AW.out.1 _ (.tail _ (.tail _ (.tail _ (.tail _ (.tail _ (.tail _ (.head _)))))))
      have hcE := BZ.out.cells (.tail _ (.tail _ (.tail _ (.tail _ (.tail _ (.tail _ (.head _)))))))
      have hcT := fun o => blk_cell TZ.out o
      have hRz := BZ.out.box _ (.tail _ (.tail _ (.tail _ (.head _))))
      have s1 := Stb.one TZ.out 0 (.int .i64 (-1))
      have s2 := Stb.one s1.blk 6 (.bool true)
      have f0 := blk_free TZ.out 0
      have f6 := blk_free s1.blk 6
      have hc2 := fun o => blk_cell s2.blk o
      have hR2 := ((s1.trans s2).other _ AG).trans hRz
      have HB2 := BZ.out.below.trans ((s1.trans s2).below.mono AW.out.2)
      have M2z := MZ.out.set1 (i := 0) (u := .int .i64 (-1)) (r := gt) NE.out |>.set1 (i := 6) (u := .bool true) (r := gt) NE.out
      have M2z := Lib.hid M2z
      have HB2 := Lib.hid HB2
      clear s1 s2 BZ TZ MZ
      go_wp2_with ((with_reducible refine wpList_store_row (o := ⟨none, _, _, _, _, _⟩) rfl 46 (.tmp 6) (.tmp 140) rfl (w.heap.size + 1 + 1 + 1) (#[.int .i64 (-1), .int .i64 e.s.c, .int .i64 e.s.m, .slice p e.s.l.length cap, .bool e.s.al, .slice (some ⟨gs, 0, none⟩) 1 1, .bool true]) ?sx ?sy 46 ztc ?sg ?si ?so ?s1 ?_); (case sx => rfl); (case sy => rfl); (case sg => exact hR2); (case si => kernel_rfl); (case so => rfl); (case s1 => kernel_rfl))
      rw [HRES.out]
      have HB := below_setRow HB2.out (show w.heap.size ≤ w.heap.size + 1 + 1 + 1 by omega) (#[.int .i64 (-1), .int .i64 e.s.c, .int .i64 e.s.m, .slice p e.s.l.length cap, .bool e.s.al, .slice (some ⟨gs, 0, none⟩) 1 1, .bool true])
      exact turnR_ret (t := ⟨⟨-1, e.s⟩, [⟨10, m.ln, m.to, m.fr, 0, 0, 0, 0, 0, 0, 0, 0, 0, 0, 0⟩], true⟩) (p := p) (cap := cap) (q := some ⟨gs, 0, none⟩) (qc := 1) Try.results10 rfl rfl rfl (setRow_heap _ _ _ _ _ _ hR2) (HN.out.step HB) (M2z.out.rowOf _ (MsIn.apart M2z.out hR2) _) HB _ _ (.inl ⟨rfl, rfl⟩)
  · skip
    go_simp
    have hbb := balloc W0 (.cells (ztc) 46)
    have hnew := heap_alloc_new W0 (.cells (ztc) 46)
    generalize hWq : W0.alloc (.cells (ztc) 46) = W1 at hbb hnew
    have B7 := Lib.hid (B6.out.step hbb)
    have T1 := Lib.hid hnew
    have AW := Lib.hid B6.out.fresh
    clear hnew
    show K _ _
    refine hK.out _ _ B7.out.six (fun hh4 => ?_)
    clear hK K hh hbb hWq
    try simp only [Act.put, List.setIfInBounds_toArray, List.set_cons_zero, List.set_cons_succ]
    refine wpAnyH_ready (fuel := 3) (rs := [4]) (by kernel_rfl) (by simp) ?_
    refine AllReadyH.cons (o := ⟨some 130, _, _, _, _, _⟩) rfl (fun K hK => ?_) AllReadyH.nil
    go_simp
    refine (rmsg_any m 10 m.fr 0 0 0 w0 _).mono ?_
    rintro _ W2 ⟨rfl, hbb⟩
    have B8 := Lib.hid (B7.out.step hbb)
    have T2 := Lib.hid ((hbb.block _ (lt_of_block T1.out)).trans T1.out)
    show K _ _
    refine hK.out _ _ B8.out.six (fun hh3 => ?_)
    clear hK K hh4 hbb
    try simp only [Act.put, List.setIfInBounds_toArray, List.set_cons_zero, List.set_cons_succ]
    refine wpAnyH_ready (fuel := 2) (rs := [5]) (by kernel_rfl) (by simp) ?_
    refine AllReadyH.cons (o := ⟨some 131, _, _, _, _, _⟩) rfl (fun K hK => ?_) AllReadyH.nil
    go_simp
    have hbb := balloc W2 (.cells (rcells m 10 m.fr 0 0 0 w0) 30)
    have hlit := MsIn.lit (w := W2) (L := [⟨10, m.ln, m.to, m.fr, 0, 0, 0, 0, 0, 0, 0, 0, 0, 0, 0⟩]) (A := rcells m 10 m.fr 0 0 0 w0) 30 rfl
    generalize hWq : W2.alloc (.cells (rcells m 10 m.fr 0 0 0 w0) 30) = W3 at hbb hlit
    have B9 := Lib.hid (B8.out.step hbb)
    have T3 := Lib.hid ((hbb.block _ (lt_of_block T2.out)).trans T2.out)
    have M3 := Lib.hid hlit
    have NE : Hid (W2.heap.size ≠ W0.heap.size) := Lib.hid (by have := lt_of_block T2.out; omega)
    clear hlit
    show K _ _
    refine hK.out _ _ B9.out.six (fun hh2 => ?_)
    clear hK K hh3 hbb hWq
    try simp only [Act.put, List.setIfInBounds_toArray, List.set_cons_zero, List.set_cons_succ]
    refine wpAnyH_take (fuel := 1) (i := 6) (oi := ⟨some 132, _, _, _, _, _⟩) (v := .agg #[.int .i64 e.ow, .int .i64 e.s.c, .int .i64 e.s.m, .slice p e.s.l.length cap, .bool e.s.al, .slice (some ⟨W2.heap.size, 0, none⟩) 1 1, .bool false]) rfl (by kernel_rfl) (by kernel_rfl) (by kernel_rfl) (fun _ _ _ h => h) (Or.inl ⟨by rfl, ?_⟩) hh2 ?_
    · rintro w' ⟨cE, cM, cW, cZ, cC, cA⟩
      go_simp
    simp only [Act.put, List.setIfInBounds_toArray, List.set_cons_zero, List.set_cons_succ]
    refine wpAnyH_ready (fuel := 0) (rs := [8]) (by kernel_rfl) (by simp) ?_
    refine AllReadyH.cons (o := ⟨none, _, _, _, _, _⟩) rfl (fun K hK => ?_) AllReadyH.nil
    rw [if_pos (by rfl)]
    refine wp_store_row 46 (.tmp 13) (.tmp 132) rfl (W0.heap.size) (#[.int .i64 e.ow, .int .i64 e.s.c, .int .i64 e.s.m, .slice p e.s.l.length cap, .bool e.s.al, .slice (some ⟨W2.heap.size, 0, none⟩) 1 1, .bool false]) rfl rfl 46 ztc T3.out (by kernel_rfl) rfl (by kernel_rfl) ?_
    have BZ := Lib.hid (B9.out.away AW.out.1 AW.out.2 (#[.int .i64 e.ow, .int .i64 e.s.c, .int .i64 e.s.m, .slice p e.s.l.length cap, .bool e.s.al, .slice (some ⟨W2.heap.size, 0, none⟩) 1 1, .bool false]))
    have TZ := Lib.hid (setRow_heap _ (W0.heap.size) _ (#[.int .i64 e.ow, .int .i64 e.s.c, .int .i64 e.s.m, .slice p e.s.l.length cap, .bool e.s.al, .slice (some ⟨W2.heap.size, 0, none⟩) 1 1, .bool false]) 46 (0, 0) T3.out)
    have MZ := Lib.hid (M3.out.rowOf (W0.heap.size) NE.out (#[.int .i64 e.ow, .int .i64 e.s.c, .int .i64 e.s.m, .slice p e.s.l.length cap, .bool e.s.al, .slice (some ⟨W2.heap.size, 0, none⟩) 1 1, .bool false]))
    refine hK.out _ _ BZ.out.six (fun hhz => ?_)
    clear hK K hh2
    simp only [Act.put]
    refine wpAnyH_done (by kernel_rfl) ?_ _
    refine NoPanic.normal ?_
    clear hhz
    generalize World.setRow _ _ _ = W9 at BZ TZ MZ ⊢
    generalize (W2.heap.size) = gs at *
    generalize (W0.heap.size) = gt at *
    have AG : w.heap.size + 1 + 1 + 1 ≠ gt := AW.out.1 _ (.tail _ (.tail _ (.tail _ (.head _))))
    have AH : w.heap.size ≠ gt := AW.out.1 _ (.tail _ (.tail _ (.tail _ (.tail _ (.tail _ (.tail _ (.head _)))))))
    have hcE := BZ.out.cells (.tail _ (.tail _ (.tail _ (.tail _ (.tail _ (.tail _ (.head _)))))))
    have hcT := fun o => blk_cell TZ.out o
    have hRz := BZ.out.box _ (.tail _ (.tail _ (.tail _ (.head _))))
    have s1 := Stb.one TZ.out 0 (.int .i64 (-1))
    have s2 := Stb.one s1.blk 6 (.bool true)
    have f0 := blk_free TZ.out 0
    have f6 := blk_free s1.blk 6
    have hc2 := fun o => blk_cell s2.blk o
    have hR2 := ((s1.trans s2).other _ AG).trans hRz
    have HB2 := BZ.out.below.trans ((s1.trans s2).below.mono AW.out.2)
    have M2z := MZ.out.set1 (i := 0) (u := .int .i64 (-1)) (r := gt) NE.out |>.set1 (i := 6) (u := .bool true) (r := gt) NE.out
    have M2z := Lib.hid M2z
    have HB2 := Lib.hid HB2
    clear s1 s2 BZ TZ MZ
    go_wp2_with ((with_reducible refine wpList_store_row (o := ⟨none, _, _, _, _, _⟩) rfl 46 (.tmp 6) (.tmp 140) rfl (w.heap.size + 1 + 1 + 1) (#[.int .i64 (-1), .int .i64 e.s.c, .int .i64 e.s.m, .slice p e.s.l.length cap, .bool e.s.al, .slice (some ⟨gs, 0, none⟩) 1 1, .bool true]) ?sx ?sy 46 ztc ?sg ?si ?so ?s1 ?_); (case sx => rfl); (case sy => rfl); (case sg => exact hR2); (case si => kernel_rfl); (case so => rfl); (case s1 => kernel_rfl))
    rw [HRES.out]
    have HB := below_setRow HB2.out (show w.heap.size ≤ w.heap.size + 1 + 1 + 1 by omega) (#[.int .i64 (-1), .int .i64 e.s.c, .int .i64 e.s.m, .slice p e.s.l.length cap, .bool e.s.al, .slice (some ⟨gs, 0, none⟩) 1 1, .bool true])
    exact turnR_ret (t := ⟨⟨-1, e.s⟩, [⟨10, m.ln, m.to, m.fr, 0, 0, 0, 0, 0, 0, 0, 0, 0, 0, 0⟩], true⟩) (p := p) (cap := cap) (q := some ⟨gs, 0, none⟩) (qc := 1) Try.results10 rfl rfl rfl (setRow_heap _ _ _ _ _ _ hR2) (HN.out.step HB) (M2z.out.rowOf _ (MsIn.apart M2z.out hR2) _) HB _ _ (.inl ⟨rfl, rfl⟩)

end Go.Proofs.Ytfnemldjhfcalaa
