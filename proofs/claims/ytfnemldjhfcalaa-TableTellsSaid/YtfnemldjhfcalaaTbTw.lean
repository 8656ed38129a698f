/-
  The document's Next: GetM, where nobody owns the line.
-/
import Derived.Test.YtfnemldjhfcalaaTbT
namespace Go.Proofs.Ytfnemldjhfcalaa
open Go Go.RowKit Go.Sort

set_option maxRecDepth 100000 in
set_option maxHeartbeats 16000000 in
theorem rnext_wrt (e : En) (p : Option Addr) (cap : Nat) (m : Msg) (v : W8) (w : World) (hl : e.s.l.length ≤ 5000) (hn : NumsIn w p e.s.l) (hg : goodQ e m = true) (hk : m.kd = 2) (h1 : e.ow = -1) :
    Calls Try.prog 10 #[ev e p cap, mv m, .agg (wcells v)] w (GaveT2 w (nextT e m v).1 (nextT e m v).2 p e.s.l) := by
  have B0 := Bx.four w (ecells e p cap) (mcells m) (wcells v) ztc 37 30 28 46
  have HN := Lib.hid hn
  obtain ⟨g1, g2, g3⟩ := good_all hg
  obtain ⟨s1, s2, s3⟩ := may_parts g1
  have HM := Lib.hid g1
  have ha : addS e.s m.fr = (withS e.s m.fr, 0) := by unfold addS; rw [if_pos s1, if_pos g3]
  have HA := Lib.hid ha
  have k1 : decide (m.kd < 1) = false := by simp [isReq] at g2; simp; omega
  have k2 : decide (3 < m.kd) = false := by simp [isReq] at g2; simp; omega
  obtain ⟨r1, r2⟩ := hasB_iff.1 g3
  have k3 : decide (m.fr < 0) = false := by simp; omega
  have k4 : decide (e.s.c ≤ m.fr) = false := by simp; omega
  have q1 : (m.kd == 1) = false := by simp; omega
  have q3 : (m.kd == 3) = false := by simp; omega
  have HS1 := Lib.hid s1
  obtain ⟨L, hL⟩ : ∃ L, L = targetsS e.s [m.fr, e.ow] := ⟨_, rfl⟩
  have HL := Lib.hid hL
  have hLn : L.length ≤ 64 := by rw [hL]; exact others_len e m.fr
  have q4 : decide (e.ow < 0) = true := by simp; omega
  have HRES : Hid (nextT e m v = (⟨⟨m.fr, ⟨e.s.c, e.s.m, [], false⟩⟩, ⟨7, m.ln, m.to, m.fr, 0, (L.length : Int), 4, v.w0, v.w1, v.w2, v.w3, v.w4, v.w5, v.w6, v.w7⟩ :: invs m L, false⟩, 0)) := Lib.hid (by
    rw [hL]
    unfold nextT takeT
    rw [if_neg (not_bad hg), if_neg (by omega), if_pos hk, if_pos h1, (new_fine s1).1]
    rfl)
  clear hL hn hg g1 g2 g3 s1 s2 s3 ha r1 r2 hk h1
  go_enter Try.func10, Try.ntmps10
  go_wp2_with (first
    | (go_at_call 14; refine (rmay_is HM.out p cap _ (by omega) (HN.out.step B0.below)).mono ?_; rintro _ w1 ⟨rfl, hb1⟩; have B1 := B0.step hb1; have hcE := B1.cells (.tail _ (.tail _ (.tail _ (.head _)))); have hcM := B1.cells (.tail _ (.tail _ (.head _))); clear hb1; have l0 : w.heap.size < w1.heap.size := lt_of_block (B1.box _ (.tail _ (.tail _ (.tail _ (.head _))))); have l1 : w.heap.size + 1 < w1.heap.size := lt_of_block (B1.box _ (.tail _ (.tail _ (.head _)))); have B2 := B1.add zw 28; have B3 := B2.addAt (sv e.s.c e.s.m none 0 0 false) 35 (w1.heap.size + 1) (by simp))
    | (go_at_call 23; refine (radd_is HA.out p cap _ (HN.out.step B3.below) hl).mono ?_; rintro _ w4 ⟨pa, ca, rfl, hi4, hb4, ho4⟩; have B4 := B3.step hb4; generalize withS e.s m.fr = s' at *; have B5 := B4.addAt (sval s' pa ca) 35 w4.heap.size rfl; have HPA := Lib.hid (hi4.step (balloc w4 (.cells (sval s' pa ca) 35))); have hz5 : (w4.alloc (.cells (sval s' pa ca) 35)).heap.size = w4.heap.size + 1 := (by simp); have hgz : w.heap.size + 1 + 1 + 1 < w1.heap.size := lt_of_block (B1.box _ (.head _)); have hga : w.heap.size + 1 + 1 + 1 < w4.heap.size := lt_of_block (B4.box _ (.tail _ (.tail _ (.head _)))); have HPF := Lib.hid (apart_row (r := w.heap.size + 1 + 1 + 1) HN.out ho4 (by omega) (by simp; omega)); have HPO := Lib.hid (old_or ho4 B3.below.size); clear hb4 hi4 ho4 hcE hcM l0 l1 B0 B1 B2 B3 B4 HA; generalize w1.heap.size = gz at *; have hcE := B5.cells (.tail _ (.tail _ (.tail _ (.tail _ (.tail _ (.tail _ (.head _))))))); have hcM := B5.cells (.tail _ (.tail _ (.tail _ (.tail _ (.tail _ (.head _)))))); have hcW := B5.cells (.tail _ (.tail _ (.tail _ (.tail _ (.head _))))); have hcZ := B5.cells (.tail _ (.tail _ (.head _))); have hcC := B5.cells (.tail _ (.head _)); have hcA := B5.cells (.head _)))
  generalize World.alloc w4 _ = w5 at *
  generalize w4.heap.size = ga at *
  refine (rtargets_L HL.out HS1.out p cap _ 2 _ (HN.out.step (bstep B5.below (balloc w5 (.cells #[.int .i64 m.fr, .int .i64 e.ow] 3)))) (NumsIn.litAt w5 m.fr e.ow (ga + 1) hz5.symm) hl (by simp)).mono ?_
  rintro _ w6 ⟨pt, ct, rfl, hi6, hb6⟩
  replace B5 := (B5.step (balloc w5 (.cells #[.int .i64 m.fr, .int .i64 e.ow] 3))).step hb6
  have PT := Lib.hid hi6
  have l0 : w.heap.size < w6.heap.size := lt_of_block (B5.box _ (.tail _ (.tail _ (.tail _ (.tail _ (.tail _ (.tail _ (.head _))))))))
  clear hb6 hi6 HPA HPF HPO
  replace hcE := B5.cells (.tail _ (.tail _ (.tail _ (.tail _ (.tail _ (.tail _ (.head _))))))); replace hcM := B5.cells (.tail _ (.tail _ (.tail _ (.tail _ (.tail _ (.head _)))))); replace hcW := B5.cells (.tail _ (.tail _ (.tail _ (.tail _ (.head _))))); replace hcZ := B5.cells (.tail _ (.tail _ (.head _))); replace hcC := B5.cells (.tail _ (.head _)); replace hcA := B5.cells (.head _)
  go_upto_region 25 with fail
  have BG := Lib.hid B5
  have LB := Lib.hid (balloc w6 (.cells (trc m.fr e.s.c e.s.m (.slice none 0 0)) 46))
  have TR := Lib.hid (Tr.mk (gt := w6.heap.size) (L := []) (heap_alloc_new w6 (.cells (trc m.fr e.s.c e.s.m (.slice none 0 0)) 46)) (World.ownsRow_nil _ _ _ _))
  generalize World.alloc w6 _ = wr at LB TR ⊢
  clear B5 hcE hcM hcW hcZ hcC hcA
  go_cut [] (fun wx => Below w6.heap.size w6 wx ∧ ∃ lv, Tr wx w6.heap.size m.fr e.s.c e.s.m [⟨7, m.ln, m.to, m.fr, 0, (L.length : Int), 4, v.w0, v.w1, v.w2, v.w3, v.w4, v.w5, v.w6, v.w7⟩] lv)
  case first =>
    obtain ⟨i0, hi, hz0, hz1, hz2⟩ := info_parts A30
    have LB0 := Lib.hid (bstep LB.out (below_drew _))
    have TR0 := Lib.hid (TR.out.step (below_drew _))
    generalize hW0 : wr.drew = W0 at LB0 TR0
    refine wp_region_noPanic ?_
    refine wp_region_held_drew (S := fun w' => (∀ o, w'.cell? ⟨w.heap.size, o, none⟩ = (ecells e p cap)[o]?) ∧ (∀ o, w'.cell? ⟨w.heap.size + 1, o, none⟩ = (mcells m)[o]?) ∧ (∀ o, w'.cell? ⟨w.heap.size + 1 + 1, o, none⟩ = (wcells v)[o]?) ∧ (∀ o, w'.cell? ⟨gz, o, none⟩ = zw[o]?) ∧ (∀ o, w'.cell? ⟨gz + 1, o, none⟩ = (sv e.s.c e.s.m none 0 0 false)[o]?) ∧ (∀ o, w'.cell? ⟨ga, o, none⟩ = (sval s' pa ca)[o]?)) (by kernel_rfl) (by rw [hW0]; exact (BG.out.step LB0.out).six) (fun hh => ?_)
    rw [hW0] at hh ⊢
    refine wpAnyH_take (fuel := 10) (i := 0) (oi := ⟨some 157, _, _, _, _, _⟩) (v := .pointer (some ⟨w6.heap.size, 5, none⟩)) rfl (by kernel_rfl) (by kernel_rfl) (by kernel_rfl) (fun _ _ _ h => h) (Or.inl ⟨by rfl, ?_⟩) hh ?_
    · rintro w' ⟨cE, cM, cW, cZ, cC, cA⟩
      go_simp
    simp only [Act.put, List.setIfInBounds_toArray, List.set_cons_zero, List.set_cons_succ]
    refine wpAnyH_take (fuel := 9) (i := 2) (oi := ⟨some 159, _, _, _, _, _⟩) (v := .agg (mcells m)) rfl (by kernel_rfl) (by kernel_rfl) (by kernel_rfl) (fun _ _ _ h => h) (yields_load_at (by rfl) 30 (.tmp 4) rfl (w.heap.size + 1) 0 rfl (mcells m) _ (fun w' ⟨cE, c0, cW, cZ, cC, cA⟩ => range_of c0) Try.underlying30 rfl (by kernel_rfl)) hh ?_
    simp only [Act.put, List.setIfInBounds_toArray, List.set_cons_zero, List.set_cons_succ]
    refine wpAnyH_take (fuel := 8) (i := 3) (oi := ⟨some 160, _, _, _, _, _⟩) (v := .int .i64 m.fr) rfl (by kernel_rfl) (by kernel_rfl) (by kernel_rfl) (fun _ _ _ h => h) (Or.inl ⟨by rfl, ?_⟩) hh ?_
    · rintro w' ⟨cE, cM, cW, cZ, cC, cA⟩
      go_simp
    simp only [Act.put, List.setIfInBounds_toArray, List.set_cons_zero, List.set_cons_succ]
    refine wpAnyH_take (fuel := 7) (i := 4) (oi := ⟨some 161, _, _, _, _, _⟩) (v := .int .i64 (L.length : Int)) rfl (by kernel_rfl) (by kernel_rfl) (by kernel_rfl) (fun _ _ _ h => h) (Or.inl ⟨by rfl, ?_⟩) hh ?_
    · rintro w' ⟨cE, cM, cW, cZ, cC, cA⟩
      go_simp
    simp only [Act.put, List.setIfInBounds_toArray, List.set_cons_zero, List.set_cons_succ]
    refine wpAnyH_take (fuel := 6) (i := 5) (oi := ⟨some 162, _, _, _, _, _⟩) (v := .agg (wcells v)) rfl (by kernel_rfl) (by kernel_rfl) (by kernel_rfl) (fun _ _ _ h => h) (Or.inl ⟨by rfl, ?_⟩) hh ?_
    · rintro w' ⟨cE, cM, cW, cZ, cC, cA⟩
      go_simp
    simp only [Act.put, List.setIfInBounds_toArray, List.set_cons_zero, List.set_cons_succ]
    refine wpAnyH_ready (fuel := 5) (rs := [1, 6]) (by kernel_rfl) (by simp) ?_
    refine AllReadyH.cons (o := ⟨some 158, _, _, _, _, _⟩) rfl (fun K hK => ?_) (AllReadyH.cons (o := ⟨some 163, _, _, _, _, _⟩) rfl (fun K hK => ?_) AllReadyH.nil)
    · skip
      have hc5 := blk_cell TR0.out.blk 5
      simp at hc5
      go_simp
      clear hc5
      show K _ _
      refine hK.out _ _ ((BG.out.step LB0.out).six) (fun hh5 => ?_)
      clear hK K hh
      try simp only [Act.put, List.setIfInBounds_toArray, List.set_cons_zero, List.set_cons_succ]
      refine wpAnyH_ready (fuel := 4) (rs := [6]) (by kernel_rfl) (by simp) ?_
      refine AllReadyH.cons (o := ⟨some 163, _, _, _, _, _⟩) rfl (fun K hK => ?_) AllReadyH.nil
      go_simp
      refine (rmsg_any m 7 m.fr 0 (L.length : Int) 4 v _).mono ?_
      rintro _ W1 ⟨rfl, hbb⟩
      have LB1 := Lib.hid (bstep LB0.out hbb)
      have TR1 := Lib.hid (TR0.out.step hbb)
      clear hbb
      show K _ _
      refine hK.out _ _ ((BG.out.step LB1.out).six) (fun hh4 => ?_)
      clear hK K hh5
      try simp only [Act.put, List.setIfInBounds_toArray, List.set_cons_zero, List.set_cons_succ]
      refine wpAnyH_ready (fuel := 3) (rs := [7]) (by kernel_rfl) (by simp) ?_
      refine AllReadyH.cons (o := ⟨some 164, _, _, _, _, _⟩) rfl (fun K hK => ?_) AllReadyH.nil
      go_simp
      have hbb := balloc W1 (.cells (rcells m 7 m.fr 0 (L.length : Int) 4 v) 30)
      have hnb := heap_alloc_new W1 (.cells (rcells m 7 m.fr 0 (L.length : Int) 4 v) 30)
      generalize hWq : W1.alloc (.cells (rcells m 7 m.fr 0 (L.length : Int) 4 v) 30) = W2 at hbb hnb
      have NB := Lib.hid hnb
      clear hnb hWq
      have LB2 := Lib.hid (bstep LB1.out hbb)
      have TR2 := Lib.hid (TR1.out.step hbb)
      clear hbb
      show K _ _
      refine hK.out _ _ ((BG.out.step LB2.out).six) (fun hh3 => ?_)
      clear hK K hh4
      try simp only [Act.put, List.setIfInBounds_toArray, List.set_cons_zero, List.set_cons_succ]
      refine wpAnyH_ready (fuel := 2) (rs := [8]) (by kernel_rfl) (by simp) ?_
      refine AllReadyH.cons (o := ⟨some 165, _, _, _, _, _⟩) rfl (fun K hK => ?_) AllReadyH.nil
      refine step_append_lies _ rfl (.tmp 158) (.tmp 164) 40 rfl (w6.heap.size + 1) 30 i0 (.agg zm) 15 120 Try.underlying40 hi hz0 hz1 hz2 rfl (by decide) (.slice none 0 0) ([] : List Msg).length ([]) rfl TR2.out.row ⟨W1.heap.size, 0, none⟩ 1 1 (rcells m 7 m.fr 0 (L.length : Int) 4 v).toList rfl rfl (World.news_of_block (cs := rcells m 7 m.fr 0 (L.length : Int) 4 v) (t := 30) (fr := (0, 0)) NB.out) (row_cells m 7 m.fr 0 (L.length : Int) 4 v) (by decide) (by unfold maxLen; simp) (by simp) (Nat.succ_le_of_lt (lt_of_block TR2.out.blk)) _ rfl ?_
      intro gg cap2 W3 hown hgrow hat hlt2
      obtain ⟨TS1, TS2⟩ := TR2.out.sent ⟨7, m.ln, m.to, m.fr, 0, (L.length : Int), 4, v.w0, v.w1, v.w2, v.w3, v.w4, v.w5, v.w6, v.w7⟩ hown hgrow
      obtain ⟨hbk, hbB⟩ := TR2.out.kept hgrow
      have LB3 := Lib.hid (LB2.out.trans hbB)
      refine hK.out _ _ ((BG.out.step LB3.out).six) (fun hha => ?_)
      clear hK K hh3 hat hlt2
      try simp only [Act.put, List.setIfInBounds_toArray, List.set_cons_zero, List.set_cons_succ]
      refine wpAnyH_take (fuel := 1) (i := 9) (oi := ⟨some 166, _, _, _, _, _⟩) (v := .pointer (some ⟨w6.heap.size, 5, none⟩)) rfl (by kernel_rfl) (by kernel_rfl) (by kernel_rfl) (fun _ _ _ h => h) (Or.inl ⟨by rfl, ?_⟩) hha ?_
      · rintro w' ⟨cE, cM, cW, cZ, cC, cA⟩
        go_simp
      simp only [Act.put, List.setIfInBounds_toArray, List.set_cons_zero, List.set_cons_succ]
      refine wpAnyH_ready (fuel := 0) (rs := [10]) (by kernel_rfl) (by simp) ?_
      refine AllReadyH.cons (o := ⟨none, _, _, _, _, _⟩) rfl (fun K hK => ?_) AllReadyH.nil
      have hc5 := blk_cell hbk 5
      have hf5 := blk_free hbk 5
      simp at hc5
      go_simp
      show K _ _
      have LBZ := Lib.hid (LB2.out.trans TS2)
      refine hK.out _ _ ((BG.out.step LBZ.out).six) (fun hhz => ?_)
      clear hK K hha hc5 hf5
      refine wpAnyH_done (by kernel_rfl) ?_ _
      refine NoPanic.normal ?_
      clear hhz
      have TRZ := Lib.hid TS1
      clear TS1 TS2 hbk hbB hown hgrow
      generalize World.setCell _ _ _ = W9 at LBZ TRZ ⊢
      go_wp2_with fail
      go_meet
      case rel => exact ⟨LBZ.out, _, TRZ.out⟩
    · skip
      go_simp
      refine (rmsg_any m 7 m.fr 0 (L.length : Int) 4 v _).mono ?_
      rintro _ W1 ⟨rfl, hbb⟩
      have LB1 := Lib.hid (bstep LB0.out hbb)
      have TR1 := Lib.hid (TR0.out.step hbb)
      clear hbb
      show K _ _
      refine hK.out _ _ ((BG.out.step LB1.out).six) (fun hh5 => ?_)
      clear hK K hh
      try simp only [Act.put, List.setIfInBounds_toArray, List.set_cons_zero, List.set_cons_succ]
      refine wpAnyH_ready (fuel := 4) (rs := [1, 7]) (by kernel_rfl) (by simp) ?_
      refine AllReadyH.cons (o := ⟨some 158, _, _, _, _, _⟩) rfl (fun K hK => ?_) (AllReadyH.cons (o := ⟨some 164, _, _, _, _, _⟩) rfl (fun K hK => ?_) AllReadyH.nil)
      · skip
        have hc5 := blk_cell TR1.out.blk 5
        simp at hc5
        go_simp
        clear hc5
        show K _ _
        refine hK.out _ _ ((BG.out.step LB1.out).six) (fun hh4 => ?_)
        clear hK K hh5
        try simp only [Act.put, List.setIfInBounds_toArray, List.set_cons_zero, List.set_cons_succ]
        refine wpAnyH_ready (fuel := 3) (rs := [7]) (by kernel_rfl) (by simp) ?_
        refine AllReadyH.cons (o := ⟨some 164, _, _, _, _, _⟩) rfl (fun K hK => ?_) AllReadyH.nil
        go_simp
        have hbb := balloc W1 (.cells (rcells m 7 m.fr 0 (L.length : Int) 4 v) 30)
        have hnb := heap_alloc_new W1 (.cells (rcells m 7 m.fr 0 (L.length : Int) 4 v) 30)
        generalize hWq : W1.alloc (.cells (rcells m 7 m.fr 0 (L.length : Int) 4 v) 30) = W2 at hbb hnb
        have NB := Lib.hid hnb
        clear hnb hWq
        have LB2 := Lib.hid (bstep LB1.out hbb)
        have TR2 := Lib.hid (TR1.out.step hbb)
        clear hbb
        show K _ _
        refine hK.out _ _ ((BG.out.step LB2.out).six) (fun hh3 => ?_)
        clear hK K hh4
        try simp only [Act.put, List.setIfInBounds_toArray, List.set_cons_zero, List.set_cons_succ]
        refine wpAnyH_ready (fuel := 2) (rs := [8]) (by kernel_rfl) (by simp) ?_
        refine AllReadyH.cons (o := ⟨some 165, _, _, _, _, _⟩) rfl (fun K hK => ?_) AllReadyH.nil
        refine step_append_lies _ rfl (.tmp 158) (.tmp 164) 40 rfl (w6.heap.size + 1) 30 i0 (.agg zm) 15 120 Try.underlying40 hi hz0 hz1 hz2 rfl (by decide) (.slice none 0 0) ([] : List Msg).length ([]) rfl TR2.out.row ⟨W1.heap.size, 0, none⟩ 1 1 (rcells m 7 m.fr 0 (L.length : Int) 4 v).toList rfl rfl (World.news_of_block (cs := rcells m 7 m.fr 0 (L.length : Int) 4 v) (t := 30) (fr := (0, 0)) NB.out) (row_cells m 7 m.fr 0 (L.length : Int) 4 v) (by decide) (by unfold maxLen; simp) (by simp) (Nat.succ_le_of_lt (lt_of_block TR2.out.blk)) _ rfl ?_
        intro gg cap2 W3 hown hgrow hat hlt2
        obtain ⟨TS1, TS2⟩ := TR2.out.sent ⟨7, m.ln, m.to, m.fr, 0, (L.length : Int), 4, v.w0, v.w1, v.w2, v.w3, v.w4, v.w5, v.w6, v.w7⟩ hown hgrow
        obtain ⟨hbk, hbB⟩ := TR2.out.kept hgrow
        have LB3 := Lib.hid (LB2.out.trans hbB)
        refine hK.out _ _ ((BG.out.step LB3.out).six) (fun hha => ?_)
        clear hK K hh3 hat hlt2
        try simp only [Act.put, List.setIfInBounds_toArray, List.set_cons_zero, List.set_cons_succ]
        refine wpAnyH_take (fuel := 1) (i := 9) (oi := ⟨some 166, _, _, _, _, _⟩) (v := .pointer (some ⟨w6.heap.size, 5, none⟩)) rfl (by kernel_rfl) (by kernel_rfl) (by kernel_rfl) (fun _ _ _ h => h) (Or.inl ⟨by rfl, ?_⟩) hha ?_
        · rintro w' ⟨cE, cM, cW, cZ, cC, cA⟩
          go_simp
        simp only [Act.put, List.setIfInBounds_toArray, List.set_cons_zero, List.set_cons_succ]
        refine wpAnyH_ready (fuel := 0) (rs := [10]) (by kernel_rfl) (by simp) ?_
        refine AllReadyH.cons (o := ⟨none, _, _, _, _, _⟩) rfl (fun K hK => ?_) AllReadyH.nil
        have hc5 := blk_cell hbk 5
        have hf5 := blk_free hbk 5
        simp at hc5
        go_simp
        show K _ _
        have LBZ := Lib.hid (LB2.out.trans TS2)
        refine hK.out _ _ ((BG.out.step LBZ.out).six) (fun hhz => ?_)
        clear hK K hha hc5 hf5
        refine wpAnyH_done (by kernel_rfl) ?_ _
        refine NoPanic.normal ?_
        clear hhz
        have TRZ := Lib.hid TS1
        clear TS1 TS2 hbk hbB hown hgrow
        generalize World.setCell _ _ _ = W9 at LBZ TRZ ⊢
        go_wp2_with fail
        go_meet
        case rel => exact ⟨LBZ.out, _, TRZ.out⟩
      · skip
        go_simp
        have hbb := balloc W1 (.cells (rcells m 7 m.fr 0 (L.length : Int) 4 v) 30)
        have hnb := heap_alloc_new W1 (.cells (rcells m 7 m.fr 0 (L.length : Int) 4 v) 30)
        generalize hWq : W1.alloc (.cells (rcells m 7 m.fr 0 (L.length : Int) 4 v) 30) = W2 at hbb hnb
        have NB := Lib.hid hnb
        clear hnb hWq
        have LB2 := Lib.hid (bstep LB1.out hbb)
        have TR2 := Lib.hid (TR1.out.step hbb)
        clear hbb
        show K _ _
        refine hK.out _ _ ((BG.out.step LB2.out).six) (fun hh4 => ?_)
        clear hK K hh5
        try simp only [Act.put, List.setIfInBounds_toArray, List.set_cons_zero, List.set_cons_succ]
        refine wpAnyH_ready (fuel := 3) (rs := [1]) (by kernel_rfl) (by simp) ?_
        refine AllReadyH.cons (o := ⟨some 158, _, _, _, _, _⟩) rfl (fun K hK => ?_) AllReadyH.nil
        have hc5 := blk_cell TR2.out.blk 5
        simp at hc5
        go_simp
        clear hc5
        show K _ _
        refine hK.out _ _ ((BG.out.step LB2.out).six) (fun hh3 => ?_)
        clear hK K hh4
        try simp only [Act.put, List.setIfInBounds_toArray, List.set_cons_zero, List.set_cons_succ]
        refine wpAnyH_ready (fuel := 2) (rs := [8]) (by kernel_rfl) (by simp) ?_
        refine AllReadyH.cons (o := ⟨some 165, _, _, _, _, _⟩) rfl (fun K hK => ?_) AllReadyH.nil
        refine step_append_lies _ rfl (.tmp 158) (.tmp 164) 40 rfl (w6.heap.size + 1) 30 i0 (.agg zm) 15 120 Try.underlying40 hi hz0 hz1 hz2 rfl (by decide) (.slice none 0 0) ([] : List Msg).length ([]) rfl TR2.out.row ⟨W1.heap.size, 0, none⟩ 1 1 (rcells m 7 m.fr 0 (L.length : Int) 4 v).toList rfl rfl (World.news_of_block (cs := rcells m 7 m.fr 0 (L.length : Int) 4 v) (t := 30) (fr := (0, 0)) NB.out) (row_cells m 7 m.fr 0 (L.length : Int) 4 v) (by decide) (by unfold maxLen; simp) (by simp) (Nat.succ_le_of_lt (lt_of_block TR2.out.blk)) _ rfl ?_
        intro gg cap2 W3 hown hgrow hat hlt2
        obtain ⟨TS1, TS2⟩ := TR2.out.sent ⟨7, m.ln, m.to, m.fr, 0, (L.length : Int), 4, v.w0, v.w1, v.w2, v.w3, v.w4, v.w5, v.w6, v.w7⟩ hown hgrow
        obtain ⟨hbk, hbB⟩ := TR2.out.kept hgrow
        have LB3 := Lib.hid (LB2.out.trans hbB)
        refine hK.out _ _ ((BG.out.step LB3.out).six) (fun hha => ?_)
        clear hK K hh3 hat hlt2
        try simp only [Act.put, List.setIfInBounds_toArray, List.set_cons_zero, List.set_cons_succ]
        refine wpAnyH_take (fuel := 1) (i := 9) (oi := ⟨some 166, _, _, _, _, _⟩) (v := .pointer (some ⟨w6.heap.size, 5, none⟩)) rfl (by kernel_rfl) (by kernel_rfl) (by kernel_rfl) (fun _ _ _ h => h) (Or.inl ⟨by rfl, ?_⟩) hha ?_
        · rintro w' ⟨cE, cM, cW, cZ, cC, cA⟩
          go_simp
        simp only [Act.put, List.setIfInBounds_toArray, List.set_cons_zero, List.set_cons_succ]
        refine wpAnyH_ready (fuel := 0) (rs := [10]) (by kernel_rfl) (by simp) ?_
        refine AllReadyH.cons (o := ⟨none, _, _, _, _, _⟩) rfl (fun K hK => ?_) AllReadyH.nil
        have hc5 := blk_cell hbk 5
        have hf5 := blk_free hbk 5
        simp at hc5
        go_simp
        show K _ _
        have LBZ := Lib.hid (LB2.out.trans TS2)
        refine hK.out _ _ ((BG.out.step LBZ.out).six) (fun hhz => ?_)
        clear hK K hha hc5 hf5
        refine wpAnyH_done (by kernel_rfl) ?_ _
        refine NoPanic.normal ?_
        clear hhz
        have TRZ := Lib.hid TS1
        clear TS1 TS2 hbk hbB hown hgrow
        generalize World.setCell _ _ _ = W9 at LBZ TRZ ⊢
        go_wp2_with fail
        go_meet
        case rel => exact ⟨LBZ.out, _, TRZ.out⟩
  case rest =>
    obtain ⟨hLB0, sv0, hTR0⟩ := hcut
    have LBZ := Lib.hid hLB0
    have TRZ := Lib.hid hTR0
    clear hLB0 hTR0 LB TR
    go_wp2_with fail
    go_loopw [17] (fun i wr => ∃ k : Nat, k ≤ L.length ∧ i = .int .i64 k ∧ Below w6.heap.size w6 wr ∧ ∃ lv, Tr wr w6.heap.size m.fr e.s.c e.s.m (⟨7, m.ln, m.to, m.fr, 0, (L.length : Int), 4, v.w0, v.w1, v.w2, v.w3, v.w4, v.w5, v.w6, v.w7⟩ :: invs m (L.take k)) lv) (fun i _ => L.length - (intOf i).toNat)
    case atStart => exact ⟨0, Nat.zero_le _, rfl, LBZ.out, _, TRZ.out⟩
    case round =>
      obtain ⟨k, hk, rfl, hLB, lv, hTR⟩ := hrel
      clear LBZ TRZ
      have LB := Lib.hid hLB
      have TR := Lib.hid hTR
      clear hLB hTR
      by_cases hlt : k < L.length
      · obtain ⟨g, off, rfl, hg, hcy⟩ := PT.out k hlt
        have HIN := Lib.hid (invs_succ m L k hlt)
        obtain ⟨y, hy⟩ : ∃ y, y = L.getD k 0 := ⟨_, rfl⟩
        rw [← hy] at hcy HIN
        have HY : Hid (∀ X, Below w6.heap.size w6 X → X.cell? ⟨g, off + k, none⟩ = some (.int .i64 y)) := Lib.hid (fun X hb => (hb.cell (p := ⟨g, off + k, none⟩) hg).trans hcy)
        obtain ⟨M, hM⟩ : ∃ M, M = ⟨7, m.ln, m.to, m.fr, 0, (L.length : Int), 4, v.w0, v.w1, v.w2, v.w3, v.w4, v.w5, v.w6, v.w7⟩ :: invs m (L.take k) := ⟨_, rfl⟩
        rw [← hM] at TR
        have hMl : M.length ≤ 66 := by rw [hM]; simp [invs]; omega
        have HM := Lib.hid hM
        clear hM hcy hy
        go_wp2_with fail
        obtain ⟨i0, hi, hz0, hz1, hz2⟩ := info_parts A30
        have LB0 := Lib.hid (bstep LB.out (below_drew _))
        have TR0 := Lib.hid (TR.out.step (below_drew _))
        generalize hW0 : wr.drew = W0 at LB0 TR0
        refine wp_region_noPanic ?_
        refine wp_region_held_drew (S := fun w' => ((∀ o, w'.cell? ⟨w.heap.size, o, none⟩ = (ecells e p cap)[o]?) ∧ (∀ o, w'.cell? ⟨w.heap.size + 1, o, none⟩ = (mcells m)[o]?) ∧ (∀ o, w'.cell? ⟨w.heap.size + 1 + 1, o, none⟩ = (wcells v)[o]?) ∧ (∀ o, w'.cell? ⟨gz, o, none⟩ = zw[o]?) ∧ (∀ o, w'.cell? ⟨gz + 1, o, none⟩ = (sv e.s.c e.s.m none 0 0 false)[o]?) ∧ (∀ o, w'.cell? ⟨ga, o, none⟩ = (sval s' pa ca)[o]?)) ∧ w'.cell? ⟨g, off + k, none⟩ = some (.int .i64 y)) (by kernel_rfl) (by rw [hW0]; exact ⟨(BG.out.step LB0.out).six, HY.out _ LB0.out⟩) (fun hh => ?_)
        rw [hW0] at hh ⊢
        refine wpAnyH_take (fuel := 13) (i := 0) (oi := ⟨some 198, _, _, _, _, _⟩) (v := .pointer (some ⟨w6.heap.size, 5, none⟩)) rfl (by kernel_rfl) (by kernel_rfl) (by kernel_rfl) (fun _ _ _ h => h) (Or.inl ⟨by rfl, ?_⟩) hh ?_
        · rintro w' ⟨⟨cE, cM, cW, cZ, cC, cA⟩, cY⟩
          go_simp
        simp only [Act.put, List.setIfInBounds_toArray, List.set_cons_zero, List.set_cons_succ]
        refine wpAnyH_take (fuel := 12) (i := 2) (oi := ⟨some 200, _, _, _, _, _⟩) (v := .agg (mcells m)) rfl (by kernel_rfl) (by kernel_rfl) (by kernel_rfl) (fun _ _ _ h => h) (yields_load_at (by rfl) 30 (.tmp 4) rfl (w.heap.size + 1) 0 rfl (mcells m) _ (fun w' ⟨⟨cE, c0, cW, cZ, cC, cA⟩, cY⟩ => range_of c0) Try.underlying30 rfl (by kernel_rfl)) hh ?_
        simp only [Act.put, List.setIfInBounds_toArray, List.set_cons_zero, List.set_cons_succ]
        refine wpAnyH_take (fuel := 11) (i := 3) (oi := ⟨some 201, _, _, _, _, _⟩) (v := .slice (some ⟨g, off, none⟩) L.length ct) rfl (by kernel_rfl) (by kernel_rfl) (by kernel_rfl) (fun _ _ _ h => h) (Or.inl ⟨by rfl, ?_⟩) hh ?_
        · rintro w' ⟨⟨cE, cM, cW, cZ, cC, cA⟩, cY⟩
          go_simp
        simp only [Act.put, List.setIfInBounds_toArray, List.set_cons_zero, List.set_cons_succ]
        refine wpAnyH_take (fuel := 10) (i := 4) (oi := ⟨some 202, _, _, _, _, _⟩) (v := .int .i64 k) rfl (by kernel_rfl) (by kernel_rfl) (by kernel_rfl) (fun _ _ _ h => h) (Or.inl ⟨by rfl, ?_⟩) hh ?_
        · rintro w' ⟨⟨cE, cM, cW, cZ, cC, cA⟩, cY⟩
          go_simp
        simp only [Act.put, List.setIfInBounds_toArray, List.set_cons_zero, List.set_cons_succ]
        refine wpAnyH_take (fuel := 9) (i := 5) (oi := ⟨some 203, _, _, _, _, _⟩) (v := .pointer (some ⟨g, off + k, none⟩)) rfl (by kernel_rfl) (by kernel_rfl) (by kernel_rfl) (fun _ _ _ h => h) (Or.inl ⟨by rfl, ?_⟩) hh ?_
        · rintro w' ⟨⟨cE, cM, cW, cZ, cC, cA⟩, cY⟩
          go_simp
        simp only [Act.put, List.setIfInBounds_toArray, List.set_cons_zero, List.set_cons_succ]
        refine wpAnyH_take (fuel := 8) (i := 6) (oi := ⟨some 204, _, _, _, _, _⟩) (v := .int .i64 y) rfl (by kernel_rfl) (by kernel_rfl) (by kernel_rfl) (fun _ _ _ h => h) (Or.inl ⟨by rfl, ?_⟩) hh ?_
        · rintro w' ⟨⟨cE, cM, cW, cZ, cC, cA⟩, cY⟩
          go_simp
        simp only [Act.put, List.setIfInBounds_toArray, List.set_cons_zero, List.set_cons_succ]
        refine wpAnyH_take (fuel := 7) (i := 7) (oi := ⟨some 205, _, _, _, _, _⟩) (v := .int .i64 m.fr) rfl (by kernel_rfl) (by kernel_rfl) (by kernel_rfl) (fun _ _ _ h => h) (Or.inl ⟨by rfl, ?_⟩) hh ?_
        · rintro w' ⟨⟨cE, cM, cW, cZ, cC, cA⟩, cY⟩
          go_simp
        simp only [Act.put, List.setIfInBounds_toArray, List.set_cons_zero, List.set_cons_succ]
        refine wpAnyH_take (fuel := 6) (i := 8) (oi := ⟨some 206, _, _, _, _, _⟩) (v := .agg zw) rfl (by kernel_rfl) (by kernel_rfl) (by kernel_rfl) (fun _ _ _ h => h) (Or.inl ⟨by rfl, ?_⟩) hh ?_
        · rintro w' ⟨⟨cE, cM, cW, cZ, cC, cA⟩, cY⟩
          go_simp
        simp only [Act.put, List.setIfInBounds_toArray, List.set_cons_zero, List.set_cons_succ]
        refine wpAnyH_ready (fuel := 5) (rs := [1, 9]) (by kernel_rfl) (by simp) ?_
        refine AllReadyH.cons (o := ⟨some 199, _, _, _, _, _⟩) rfl (fun K hK => ?_) (AllReadyH.cons (o := ⟨some 207, _, _, _, _, _⟩) rfl (fun K hK => ?_) AllReadyH.nil)
        · skip
          have hc5 := blk_cell TR0.out.blk 5
          simp at hc5
          go_simp
          clear hc5
          show K _ _
          refine hK.out _ _ (⟨(BG.out.step LB0.out).six, HY.out _ LB0.out⟩) (fun hh5 => ?_)
          clear hK K hh
          try simp only [Act.put, List.setIfInBounds_toArray, List.set_cons_zero, List.set_cons_succ]
          refine wpAnyH_ready (fuel := 4) (rs := [9]) (by kernel_rfl) (by simp) ?_
          refine AllReadyH.cons (o := ⟨some 207, _, _, _, _, _⟩) rfl (fun K hK => ?_) AllReadyH.nil
          go_simp
          refine (rmsg_any m 6 y m.fr 0 0 w0 _).mono ?_
          rintro _ W1 ⟨rfl, hbb⟩
          have LB1 := Lib.hid (bstep LB0.out hbb)
          have TR1 := Lib.hid (TR0.out.step hbb)
          clear hbb
          show K _ _
          refine hK.out _ _ (⟨(BG.out.step LB1.out).six, HY.out _ LB1.out⟩) (fun hh4 => ?_)
          clear hK K hh5
          try simp only [Act.put, List.setIfInBounds_toArray, List.set_cons_zero, List.set_cons_succ]
          refine wpAnyH_ready (fuel := 3) (rs := [10]) (by kernel_rfl) (by simp) ?_
          refine AllReadyH.cons (o := ⟨some 208, _, _, _, _, _⟩) rfl (fun K hK => ?_) AllReadyH.nil
          go_simp
          have hbb := balloc W1 (.cells (rcells m 6 y m.fr 0 0 w0) 30)
          have hnb := heap_alloc_new W1 (.cells (rcells m 6 y m.fr 0 0 w0) 30)
          generalize hWq : W1.alloc (.cells (rcells m 6 y m.fr 0 0 w0) 30) = W2 at hbb hnb
          have NB := Lib.hid hnb
          clear hnb hWq
          have LB2 := Lib.hid (bstep LB1.out hbb)
          have TR2 := Lib.hid (TR1.out.step hbb)
          clear hbb
          show K _ _
          refine hK.out _ _ (⟨(BG.out.step LB2.out).six, HY.out _ LB2.out⟩) (fun hh3 => ?_)
          clear hK K hh4
          try simp only [Act.put, List.setIfInBounds_toArray, List.set_cons_zero, List.set_cons_succ]
          refine wpAnyH_ready (fuel := 2) (rs := [11]) (by kernel_rfl) (by simp) ?_
          refine AllReadyH.cons (o := ⟨some 209, _, _, _, _, _⟩) rfl (fun K hK => ?_) AllReadyH.nil
          refine step_append_lies _ rfl (.tmp 199) (.tmp 208) 40 rfl (w6.heap.size + 1) 30 i0 (.agg zm) 15 120 Try.underlying40 hi hz0 hz1 hz2 rfl (by decide) (lv) M.length (tcs M) rfl TR2.out.row ⟨W1.heap.size, 0, none⟩ 1 1 (rcells m 6 y m.fr 0 0 w0).toList rfl rfl (World.news_of_block (cs := rcells m 6 y m.fr 0 0 w0) (t := 30) (fr := (0, 0)) NB.out) (row_cells m 6 y m.fr 0 0 w0) (by decide) (by unfold maxLen; omega) (by omega) (Nat.succ_le_of_lt (lt_of_block TR2.out.blk)) _ rfl ?_
          intro gg cap2 W3 hown hgrow hat hlt2
          obtain ⟨TS1, TS2⟩ := TR2.out.sent ⟨6, m.ln, m.to, y, m.fr, 0, 0, 0, 0, 0, 0, 0, 0, 0, 0⟩ hown hgrow
          obtain ⟨hbk, hbB⟩ := TR2.out.kept hgrow
          have LB3 := Lib.hid (LB2.out.trans hbB)
          refine hK.out _ _ (⟨(BG.out.step LB3.out).six, HY.out _ LB3.out⟩) (fun hha => ?_)
          clear hK K hh3 hat hlt2
          try simp only [Act.put, List.setIfInBounds_toArray, List.set_cons_zero, List.set_cons_succ]
          refine wpAnyH_take (fuel := 1) (i := 12) (oi := ⟨some 210, _, _, _, _, _⟩) (v := .pointer (some ⟨w6.heap.size, 5, none⟩)) rfl (by kernel_rfl) (by kernel_rfl) (by kernel_rfl) (fun _ _ _ h => h) (Or.inl ⟨by rfl, ?_⟩) hha ?_
          · rintro w' ⟨⟨cE, cM, cW, cZ, cC, cA⟩, cY⟩
            go_simp
          simp only [Act.put, List.setIfInBounds_toArray, List.set_cons_zero, List.set_cons_succ]
          refine wpAnyH_ready (fuel := 0) (rs := [13]) (by kernel_rfl) (by simp) ?_
          refine AllReadyH.cons (o := ⟨none, _, _, _, _, _⟩) rfl (fun K hK => ?_) AllReadyH.nil
          have hc5 := blk_cell hbk 5
          have hf5 := blk_free hbk 5
          simp at hc5
          go_simp
          show K _ _
          have LBZ := Lib.hid (LB2.out.trans TS2)
          refine hK.out _ _ (⟨(BG.out.step LBZ.out).six, HY.out _ LBZ.out⟩) (fun hhz => ?_)
          clear hK K hha hc5 hf5
          refine wpAnyH_done (by kernel_rfl) ?_ _
          refine NoPanic.normal ?_
          clear hhz
          have TRZ := Lib.hid TS1
          clear TS1 TS2 hbk hbB hown hgrow
          generalize World.setCell _ _ _ = W9 at LBZ TRZ ⊢
          go_wp2_with fail
          go_roundw
          case rel => exact ⟨k + 1, by omega, by go_num, LBZ.out, _, by rw [HIN.out]; have := TRZ.out; rw [HM.out] at this; exact this⟩
          case measure => simp [intOf]; omega
        · skip
          go_simp
          refine (rmsg_any m 6 y m.fr 0 0 w0 _).mono ?_
          rintro _ W1 ⟨rfl, hbb⟩
          have LB1 := Lib.hid (bstep LB0.out hbb)
          have TR1 := Lib.hid (TR0.out.step hbb)
          clear hbb
          show K _ _
          refine hK.out _ _ (⟨(BG.out.step LB1.out).six, HY.out _ LB1.out⟩) (fun hh5 => ?_)
          clear hK K hh
          try simp only [Act.put, List.setIfInBounds_toArray, List.set_cons_zero, List.set_cons_succ]
          refine wpAnyH_ready (fuel := 4) (rs := [1, 10]) (by kernel_rfl) (by simp) ?_
          refine AllReadyH.cons (o := ⟨some 199, _, _, _, _, _⟩) rfl (fun K hK => ?_) (AllReadyH.cons (o := ⟨some 208, _, _, _, _, _⟩) rfl (fun K hK => ?_) AllReadyH.nil)
          · skip
            have hc5 := blk_cell TR1.out.blk 5
            simp at hc5
            go_simp
            clear hc5
            show K _ _
            refine hK.out _ _ (⟨(BG.out.step LB1.out).six, HY.out _ LB1.out⟩) (fun hh4 => ?_)
            clear hK K hh5
            try simp only [Act.put, List.setIfInBounds_toArray, List.set_cons_zero, List.set_cons_succ]
            refine wpAnyH_ready (fuel := 3) (rs := [10]) (by kernel_rfl) (by simp) ?_
            refine AllReadyH.cons (o := ⟨some 208, _, _, _, _, _⟩) rfl (fun K hK => ?_) AllReadyH.nil
            go_simp
            have hbb := balloc W1 (.cells (rcells m 6 y m.fr 0 0 w0) 30)
            have hnb := heap_alloc_new W1 (.cells (rcells m 6 y m.fr 0 0 w0) 30)
            generalize hWq : W1.alloc (.cells (rcells m 6 y m.fr 0 0 w0) 30) = W2 at hbb hnb
            have NB := Lib.hid hnb
            clear hnb hWq
            have LB2 := Lib.hid (bstep LB1.out hbb)
            have TR2 := Lib.hid (TR1.out.step hbb)
            clear hbb
            show K _ _
            refine hK.out _ _ (⟨(BG.out.step LB2.out).six, HY.out _ LB2.out⟩) (fun hh3 => ?_)
            clear hK K hh4
            try simp only [Act.put, List.setIfInBounds_toArray, List.set_cons_zero, List.set_cons_succ]
            refine wpAnyH_ready (fuel := 2) (rs := [11]) (by kernel_rfl) (by simp) ?_
            refine AllReadyH.cons (o := ⟨some 209, _, _, _, _, _⟩) rfl (fun K hK => ?_) AllReadyH.nil
            refine step_append_lies _ rfl (.tmp 199) (.tmp 208) 40 rfl (w6.heap.size + 1) 30 i0 (.agg zm) 15 120 Try.underlying40 hi hz0 hz1 hz2 rfl (by decide) (lv) M.length (tcs M) rfl TR2.out.row ⟨W1.heap.size, 0, none⟩ 1 1 (rcells m 6 y m.fr 0 0 w0).toList rfl rfl (World.news_of_block (cs := rcells m 6 y m.fr 0 0 w0) (t := 30) (fr := (0, 0)) NB.out) (row_cells m 6 y m.fr 0 0 w0) (by decide) (by unfold maxLen; omega) (by omega) (Nat.succ_le_of_lt (lt_of_block TR2.out.blk)) _ rfl ?_
            intro gg cap2 W3 hown hgrow hat hlt2
            obtain ⟨TS1, TS2⟩ := TR2.out.sent ⟨6, m.ln, m.to, y, m.fr, 0, 0, 0, 0, 0, 0, 0, 0, 0, 0⟩ hown hgrow
            obtain ⟨hbk, hbB⟩ := TR2.out.kept hgrow
            have LB3 := Lib.hid (LB2.out.trans hbB)
            refine hK.out _ _ (⟨(BG.out.step LB3.out).six, HY.out _ LB3.out⟩) (fun hha => ?_)
            clear hK K hh3 hat hlt2
            try simp only [Act.put, List.setIfInBounds_toArray, List.set_cons_zero, List.set_cons_succ]
            refine wpAnyH_take (fuel := 1) (i := 12) (oi := ⟨some 210, _, _, _, _, _⟩) (v := .pointer (some ⟨w6.heap.size, 5, none⟩)) rfl (by kernel_rfl) (by kernel_rfl) (by kernel_rfl) (fun _ _ _ h => h) (Or.inl ⟨by rfl, ?_⟩) hha ?_
            · rintro w' ⟨⟨cE, cM, cW, cZ, cC, cA⟩, cY⟩
              go_simp
            simp only [Act.put, List.setIfInBounds_toArray, List.set_cons_zero, List.set_cons_succ]
            refine wpAnyH_ready (fuel := 0) (rs := [13]) (by kernel_rfl) (by simp) ?_
            refine AllReadyH.cons (o := ⟨none, _, _, _, _, _⟩) rfl (fun K hK => ?_) AllReadyH.nil
            have hc5 := blk_cell hbk 5
            have hf5 := blk_free hbk 5
            simp at hc5
            go_simp
            show K _ _
            have LBZ := Lib.hid (LB2.out.trans TS2)
            refine hK.out _ _ (⟨(BG.out.step LBZ.out).six, HY.out _ LBZ.out⟩) (fun hhz => ?_)
            clear hK K hha hc5 hf5
            refine wpAnyH_done (by kernel_rfl) ?_ _
            refine NoPanic.normal ?_
            clear hhz
            have TRZ := Lib.hid TS1
            clear TS1 TS2 hbk hbB hown hgrow
            generalize World.setCell _ _ _ = W9 at LBZ TRZ ⊢
            go_wp2_with fail
            go_roundw
            case rel => exact ⟨k + 1, by omega, by go_num, LBZ.out, _, by rw [HIN.out]; have := TRZ.out; rw [HM.out] at this; exact this⟩
            case measure => simp [intOf]; omega
          · skip
            go_simp
            have hbb := balloc W1 (.cells (rcells m 6 y m.fr 0 0 w0) 30)
            have hnb := heap_alloc_new W1 (.cells (rcells m 6 y m.fr 0 0 w0) 30)
            generalize hWq : W1.alloc (.cells (rcells m 6 y m.fr 0 0 w0) 30) = W2 at hbb hnb
            have NB := Lib.hid hnb
            clear hnb hWq
            have LB2 := Lib.hid (bstep LB1.out hbb)
            have TR2 := Lib.hid (TR1.out.step hbb)
            clear hbb
            show K _ _
            refine hK.out _ _ (⟨(BG.out.step LB2.out).six, HY.out _ LB2.out⟩) (fun hh4 => ?_)
            clear hK K hh5
            try simp only [Act.put, List.setIfInBounds_toArray, List.set_cons_zero, List.set_cons_succ]
            refine wpAnyH_ready (fuel := 3) (rs := [1]) (by kernel_rfl) (by simp) ?_
            refine AllReadyH.cons (o := ⟨some 199, _, _, _, _, _⟩) rfl (fun K hK => ?_) AllReadyH.nil
            have hc5 := blk_cell TR2.out.blk 5
            simp at hc5
            go_simp
            clear hc5
            show K _ _
            refine hK.out _ _ (⟨(BG.out.step LB2.out).six, HY.out _ LB2.out⟩) (fun hh3 => ?_)
            clear hK K hh4
            try simp only [Act.put, List.setIfInBounds_toArray, List.set_cons_zero, List.set_cons_succ]
            refine wpAnyH_ready (fuel := 2) (rs := [11]) (by kernel_rfl) (by simp) ?_
            refine AllReadyH.cons (o := ⟨some 209, _, _, _, _, _⟩) rfl (fun K hK => ?_) AllReadyH.nil
            refine step_append_lies _ rfl (.tmp 199) (.tmp 208) 40 rfl (w6.heap.size + 1) 30 i0 (.agg zm) 15 120 Try.underlying40 hi hz0 hz1 hz2 rfl (by decide) (lv) M.length (tcs M) rfl TR2.out.row ⟨W1.heap.size, 0, none⟩ 1 1 (rcells m 6 y m.fr 0 0 w0).toList rfl rfl (World.news_of_block (cs := rcells m 6 y m.fr 0 0 w0) (t := 30) (fr := (0, 0)) NB.out) (row_cells m 6 y m.fr 0 0 w0) (by decide) (by unfold maxLen; omega) (by omega) (Nat.succ_le_of_lt (lt_of_block TR2.out.blk)) _ rfl ?_
            intro gg cap2 W3 hown hgrow hat hlt2
            obtain ⟨TS1, TS2⟩ := TR2.out.sent ⟨6, m.ln, m.to, y, m.fr, 0, 0, 0, 0, 0, 0, 0, 0, 0, 0⟩ hown hgrow
            obtain ⟨hbk, hbB⟩ := TR2.out.kept hgrow
            have LB3 := Lib.hid (LB2.out.trans hbB)
            refine hK.out _ _ (⟨(BG.out.step LB3.out).six, HY.out _ LB3.out⟩) (fun hha => ?_)
            clear hK K hh3 hat hlt2
            try simp only [Act.put, List.setIfInBounds_toArray, List.set_cons_zero, List.set_cons_succ]
            refine wpAnyH_take (fuel := 1) (i := 12) (oi := ⟨some 210, _, _, _, _, _⟩) (v := .pointer (some ⟨w6.heap.size, 5, none⟩)) rfl (by kernel_rfl) (by kernel_rfl) (by kernel_rfl) (fun _ _ _ h => h) (Or.inl ⟨by rfl, ?_⟩) hha ?_
            · rintro w' ⟨⟨cE, cM, cW, cZ, cC, cA⟩, cY⟩
              go_simp
            simp only [Act.put, List.setIfInBounds_toArray, List.set_cons_zero, List.set_cons_succ]
            refine wpAnyH_ready (fuel := 0) (rs := [13]) (by kernel_rfl) (by simp) ?_
            refine AllReadyH.cons (o := ⟨none, _, _, _, _, _⟩) rfl (fun K hK => ?_) AllReadyH.nil
            have hc5 := blk_cell hbk 5
            have hf5 := blk_free hbk 5
            simp at hc5
            go_simp
            show K _ _
            have LBZ := Lib.hid (LB2.out.trans TS2)
            refine hK.out _ _ (⟨(BG.out.step LBZ.out).six, HY.out _ LBZ.out⟩) (fun hhz => ?_)
            clear hK K hha hc5 hf5
            refine wpAnyH_done (by kernel_rfl) ?_ _
            refine NoPanic.normal ?_
            clear hhz
            have TRZ := Lib.hid TS1
            clear TS1 TS2 hbk hbB hown hgrow
            generalize World.setCell _ _ _ = W9 at LBZ TRZ ⊢
            go_wp2_with fail
            go_roundw
            case rel => exact ⟨k + 1, by omega, by go_num, LBZ.out, _, by rw [HIN.out]; have := TRZ.out; rw [HM.out] at this; exact this⟩
            case measure => simp [intOf]; omega

      · have hke : k = L.length := by omega
        subst hke
        have hT := TR.out
        rw [List.take_length] at hT
        have BZ := BG.out.step LB.out
        have hRz := BZ.box _ (.tail _ (.tail _ (.tail _ (.head _))))
        have hRg : w.heap.size + 1 + 1 + 1 < w6.heap.size := lt_of_block (BG.out.box _ (.tail _ (.tail _ (.tail _ (.head _)))))
        obtain ⟨q, qc, rfl, -⟩ := own_msgs hT.row
        have hcT := fun o => blk_cell hT.blk o
        have hown := own_kept (w' := wr.setRow (w.heap.size + 1 + 1 + 1) (trc m.fr e.s.c e.s.m (.slice q (⟨7, m.ln, m.to, m.fr, 0, (L.length : Int), 4, v.w0, v.w1, v.w2, v.w3, v.w4, v.w5, v.w6, v.w7⟩ :: invs m L).length qc))) hT.row fun k hk => setRow_other wr _ k _ (by have := (hT.row.lt k hk).1; omega)
        obtain ⟨_, _, e9, hm9⟩ := own_msgs hown
        simp only [Value.slice.injEq, true_and] at e9
        obtain ⟨rfl, rfl⟩ := e9
        have HM9 := Lib.hid hm9
        have HBZ := Lib.hid BZ.below
        clear hown hm9 BZ
        go_wp2_with ((with_reducible refine wpList_store_row (o := ⟨none, _, _, _, _, _⟩) rfl 46 (.tmp 6) (.tmp 211) rfl (w.heap.size + 1 + 1 + 1) (trc m.fr e.s.c e.s.m (.slice q (⟨7, m.ln, m.to, m.fr, 0, (L.length : Int), 4, v.w0, v.w1, v.w2, v.w3, v.w4, v.w5, v.w6, v.w7⟩ :: invs m L).length qc)) ?sx ?sy 46 ztc ?sg ?si ?so ?s1 ?_); (case sx => rfl); (case sy => rfl); (case sg => exact hRz); (case si => kernel_rfl); (case so => rfl); (case s1 => kernel_rfl))
        rw [HRES.out]
        exact turnR_ret (t := ⟨⟨m.fr, ⟨e.s.c, e.s.m, [], false⟩⟩, ⟨7, m.ln, m.to, m.fr, 0, (L.length : Int), 4, v.w0, v.w1, v.w2, v.w3, v.w4, v.w5, v.w6, v.w7⟩ :: invs m L, false⟩) (p := none) (cap := 0) (q := q) (qc := qc) Try.results10 rfl rfl rfl (setRow_heap _ _ _ _ _ _ hRz) (NumsIn.nil _ _) HM9.out (below_setRow HBZ.out (by omega) _) _ _ (.inr (.inl rfl))

end Go.Proofs.Ytfnemldjhfcalaa
