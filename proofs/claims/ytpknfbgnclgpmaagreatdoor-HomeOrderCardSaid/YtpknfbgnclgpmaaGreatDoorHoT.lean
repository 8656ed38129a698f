/-
  HomeOrder is true: a line's requests are worked on one behind the other, in the order in which they came.
-/
import Derived.Test.YtpknfbgnclgpmaaGreatDoorHoS
namespace Go.Proofs.YtpknfbgnclgpmaaGreatDoor.Ho
open Go Go.RowKit

theorem range_set {w : World} {k : Nat} {e : Sh.En} {p : Option Addr} {cap : Nat} (h : ∀ i, w.cell? ⟨k, i, none⟩ = (Sh.ecells e p cap)[i]?) : w.rangeAt k 1 (Sh.sval e.s p cap).toList := fun j u hj => by
  rw [h]
  have hl := (List.getElem?_eq_some_iff.1 hj).1
  simp at hl
  rcases (show j = 0 ∨ j = 1 ∨ j = 2 ∨ j = 3 by omega) with rfl | rfl | rfl | rfl <;> exact hj
set_option maxRecDepth 100000 in
set_option maxHeartbeats 8000000 in
theorem homeOrder_any (c : Cfg) (n : Int) (p : Option Addr) (cap : Nat) (l : List Sp) (line : Int) (w : World) (hc : c.fits) (hT : Tb w) (hS : StepsA w p l) (hlen : l.length ≤ 9223372036854775807) (hwf : (Lit.int .i64 line).wf = true) :
    Calls Tryz.prog 4 #[cv c, .int .i64 n, .slice p l.length cap, .int .i64 line] w fun e w' => e = .returned (.bool true) ∧ Below w.heap.size w w' := by
  have HB0 := Lib.hid ((Qu.mv_add (w0 := w) (.cells (cfc c) 24)) _ _ (bx_nil w)).1
  have HS := Lib.hid hS
  have HT := Lib.hid hT
  have HC := Lib.hid hc
  have HWF := Lib.hid hwf
  have HA := Lib.hid (fun w1 (h : Below w.heap.size w w1) => awake_any w1 (hT.keeps h))
  clear hT hS hwf
  have hlrg : ∃ q, lrgB c = q := ⟨_, rfl⟩
  obtain ⟨q, hq⟩ := hlrg
  have HL := Lib.hid (fun w1 => large_is hq w1)
  clear hq
  have hnn : ∀ (w : World) (k : Nat), (binOp .eql 28 (ptr k) (.pointer none)).run Tryz.prog w = .ok (.bool false) w := fun w k => by kernel_rfl
  have hn0 : ∀ (w : World), (binOp .eql 28 (.pointer none) (.pointer none)).run Tryz.prog w = .ok (.bool true) w := fun w => by kernel_rfl
  by_cases h60 : 60 < l.length
  · have d60 : decide (60 < (l.length : Int)) = true := by simp; omega
    go_enter Tryz.func4, Tryz.ntmps4
    go_wp2_with (go_at_call 6; refine (HA.out _ HB0.out.bl).mono ?_; rintro _ w1 ⟨rfl, hb1⟩; have HB1 := Lib.hid (bx_step HB0.out hb1); clear hb1)
    go_ret
    exact ⟨rfl, HB1.out.bl⟩
  have d60 : decide (60 < (l.length : Int)) = false := by simp; omega
  cases q with
  | true =>
    go_enter Tryz.func4, Tryz.ntmps4
    go_wp2_with (first
      | (go_at_call 6; refine (HA.out _ HB0.out.bl).mono ?_; rintro _ w1 ⟨rfl, hb1⟩; have HB1 := Lib.hid (bx_step HB0.out hb1); have hc1 := Qu.blk_cell (HB1.out.at_ _ (List.mem_cons_self ..)).1; clear hb1)
      | (go_at_call 7; refine (HL.out _).mono ?_; rintro _ w2 ⟨rfl, hb2⟩; have HB2 := Lib.hid (bx_step HB1.out hb2); clear hb2))
    go_ret
    exact ⟨rfl, HB2.out.bl⟩
  | false =>
  by_cases hbad : okC c = false ∨ okC c = true ∧ (n < 0 ∨ ¬ n < 0 ∧ c.ho ≤ n)
  · have HN := Lib.hid (fun w1 => newH_bad c n w1 HC.out hbad)
    clear hbad
    go_enter Tryz.func4, Tryz.ntmps4
    go_wp2_with (first
      | (go_at_call 6; refine (HA.out _ HB0.out.bl).mono ?_; rintro _ w1 ⟨rfl, hb1⟩; have HB1 := Lib.hid (bx_step HB0.out hb1); have hc1 := Qu.blk_cell (HB1.out.at_ _ (List.mem_cons_self ..)).1; clear hb1)
      | (go_at_call 7; refine (HL.out _).mono ?_; rintro _ w2 ⟨rfl, hb2⟩; have HB2 := Lib.hid (bx_step HB1.out hb2); have hc2 := Qu.blk_cell (HB2.out.at_ _ (List.mem_cons_self ..)).1; clear hb2 hc1)
      | (go_at_call 8; refine (HN.out _).mono ?_; rintro _ w3 ⟨rfl, hb3⟩; have HB3 := Lib.hid (bx_step HB2.out hb3); clear hb3 hc2))
    go_ret
    exact ⟨rfl, HB3.out.bl⟩
  have hok : okC c = true := by
    rcases Bool.eq_false_or_eq_true (okC c) with h | h
    · exact h
    · exact absurd (.inl h) hbad
  have h0 : 0 ≤ n := by
    by_cases h : n < 0
    · exact absurd (.inr ⟨hok, .inl h⟩) hbad
    · omega
  have h1 : n < c.ho := by
    by_cases h : c.ho ≤ n
    · exact absurd (.inr ⟨hok, .inr ⟨by omega, h⟩⟩) hbad
    · omega
  have HN := Lib.hid (fun w1 (hB : Qu.Bx w (fun _ => False) noX [(w.heap.size, .cells (cfc c) 24 (0, 0))] w1) => newH_yes hB HC.out HT.out hok h0 h1)
  clear hbad hok h0 h1 h60
  go_enter Tryz.func4, Tryz.ntmps4
  go_wp2_with (first
    | (go_at_call 6; refine (HA.out _ HB0.out.bl).mono ?_; rintro _ w1 ⟨rfl, hb1⟩; have HB1 := Lib.hid (bx_step HB0.out hb1); have hc1 := Qu.blk_cell (HB1.out.at_ _ (List.mem_cons_self ..)).1; clear hb1)
    | (go_at_call 7; refine (HL.out _).mono ?_; rintro _ w2 ⟨rfl, hb2⟩; have HB2 := Lib.hid (bx_step HB1.out hb2); have hc2 := Qu.blk_cell (HB2.out.at_ _ (List.mem_cons_self ..)).1; clear hb2 hc1)
    | (go_at_call 8; refine (HN.out _ HB2.out).mono ?_; rintro _ w3 ⟨K, rfl, ho, -⟩; have H3 := Lib.hid ho; clear ho hc2))
  clear HN HL HA HB0 HB1 HB2 hnn hn0
  by_cases hown : ownB c n line = true
  rotate_left
  · have hno : ownB c n line = false := by simpa using hown
    obtain ⟨ee, hee⟩ : ∃ ee, tellE c n (s0 c) line = ee := ⟨_, rfl⟩
    have HEN := Lib.hid (fun (wr : World) (bx : Bx) (h : Own w K c n (s0 c) noX bx wr) => h.entryF line HWF.out)
    rw [hno, hee] at HEN
    clear hown hno hee
    go_wp2_with (first
      | (go_at_call 18; refine (HEN.out _ _ H3.out).mono ?_; rintro _ w4 ⟨p1, cap1, rfl, hn, hb, hf⟩; have H4 := Lib.hid (H3.out.step hb); clear hb hn hf)
      | ((with_reducible refine wpList_store_row (o := ⟨none, _, _, _, _, _⟩) rfl 65 (.tmp 11) (.tmp 50) rfl (w4.heap.size) (Sh.ecells ee p1 cap1) ?sx ?sy 65 ?old ?sg ?si ?so ?s1 ?_); (case sx => rfl); (case sy => rfl); (case old => exact Sh.zec); (case sg => exact heap_alloc_new w4 _); (case si => kernel_rfl); (case so => rfl); (case s1 => kernel_rfl); have H5 := Lib.hid (H4.out.addRow (Sh.zec) (Sh.ecells ee p1 cap1) 65); generalize World.setRow _ w4.heap.size (Sh.ecells ee p1 cap1) = w5 at *; generalize w4.heap.size = be at *; clear H4))
    go_ret
    exact ⟨rfl, H5.out.bl⟩
  have HE := Lib.hid (fun (s : Hs) (wr : World) (bx : Bx) (h : Own w K c n s noX bx wr) => h.entryY line HWF.out hown)
  have HL := Lib.hid (fun (s : Hs) (wr : World) (bx : Bx) (h : Own w K c n s noX bx wr) => h.lineY line HWF.out hown)
  have HOW := Lib.hid hown
  obtain ⟨ee, hee⟩ : ∃ ee, (s0 c).E line = ee := ⟨_, rfl⟩
  have HE0 := Lib.hid (fun (wr : World) (bx : Bx) (h : Own w K c n (s0 c) noX bx wr) => HE.out _ wr bx h)
  rw [hee] at HE0
  have HI0 := Lib.hid ((OInv.zero c n line))
  rw [show e0 c = ee from hee] at HI0
  clear hown hee
  go_wp2_with (first
    | (go_at_call 18; refine (HE0.out _ _ H3.out).mono ?_; rintro _ w4 ⟨p1, cap1, rfl, hn, hb, hf⟩; obtain ⟨zs, ho, hz⟩ := H3.out.gains hb hn hf; have H4 := Lib.hid ho; have HZ0 := Lib.hid hz; clear ho hz hb hn hf H3)
    | ((with_reducible refine wpList_store_row (o := ⟨none, _, _, _, _, _⟩) rfl 65 (.tmp 11) (.tmp 50) rfl (w4.heap.size) (Sh.ecells ee p1 cap1) ?sx ?sy 65 ?old ?sg ?si ?so ?s1 ?_); (case sx => rfl); (case sy => rfl); (case old => exact Sh.zec); (case sg => exact heap_alloc_new w4 _); (case si => kernel_rfl); (case so => rfl); (case s1 => kernel_rfl); have H5 := Lib.hid (H4.out.addRow (Sh.zec) (Sh.ecells ee p1 cap1) 65); generalize World.setRow _ w4.heap.size (Sh.ecells ee p1 cap1) = w5 at *; generalize w4.heap.size = be at *; clear H4)
    | ((with_reducible refine wpList_store_row (o := ⟨none, _, _, _, _, _⟩) rfl 36 (.tmp 13) (.tmp 54) rfl (w5.heap.size) (Me.dcells Me.d0) ?sx ?sy 36 ?old ?sg ?si ?so ?s1 ?_); (case sx => rfl); (case sy => rfl); (case old => exact Me.dcells Me.d0); (case sg => exact heap_alloc_new w5 _); (case si => kernel_rfl); (case so => rfl); (case s1 => kernel_rfl); have H6 := Lib.hid (H5.out.addRow (Me.dcells Me.d0) (Me.dcells Me.d0) 36); generalize World.setRow _ w5.heap.size (Me.dcells Me.d0) = w6 at *; generalize w5.heap.size = bw at *; clear H5))
  clear HE0
  go_loopw [14, 15, 16, 57] (fun v14 v15 v16 i wr => ∃ (k : Nat) (s : Hs) (cm sd st : List Msg) (e : Sh.En) (d : Me.Wd) (p1 : Option Addr) (cap1 : Nat) (zs zc zd zt : Bx), k ≤ l.length ∧ i = .int .i64 k ∧ Hid (Rw zc v14 cm) ∧ Hid (Rw zd v15 sd) ∧ Hid (Rw zt v16 st) ∧ Hid (NumsAt zs p1 e.s.l) ∧ Hid (OInv c n line k s cm sd st e d) ∧ Hid (Own w K c n s noX ((be, .cells (Sh.ecells e p1 cap1) 65 (0, 0)) :: (bw, .cells (Me.dcells d) 36 (0, 0)) :: (zs ++ (zc ++ (zd ++ (zt ++ [(w.heap.size, .cells (cfc c) 24 (0, 0))]))))) wr)) (fun _ _ _ i _ => l.length - (intOf i).toNat)
  case atStart => exact ⟨0, _, [], [], [], _, Me.d0, p1, cap1, zs, [], [], [], Nat.zero_le _, rfl, Lib.hid rw_nil, Lib.hid rw_nil, Lib.hid rw_nil, HZ0, HI0, Lib.hid (H6.out.perm (List.Perm.swap _ _ _))⟩
  case round =>
    clear HI0 H6 HZ0
    obtain ⟨k, s, cm, sd, st, e, d, p1, cap1, zs, zc, zd, zt, hk, rfl, HC0, HD0, HT0, HZ, HI, H0⟩ := hrel
    by_cases hlt : k = l.length
    · subst hlt
      go_wp2
      go_ret
      exact ⟨rfl, H0.out.bl⟩
    replace hlt : k < l.length := by omega
    obtain ⟨g, off, rfl, -, hrx⟩ := (HS.out.step H0.out.bl) k hlt
    obtain ⟨x, hx⟩ : ∃ x, l[k] = x := ⟨_, rfl⟩
    rw [hx] at hrx
    clear hx
    have HR := Lib.hid hrx
    have hlr : l.length ≤ 60 := by simp at d60; omega
    clear hrx
    have HDO := Lib.hid (fun (wr : World) (bx : Bx) (h : Own w K c n s noX bx wr) => h.doF x)
    have hsn := do_sends H0.out.gd x
    have hle := H0.out.ent_len HOW.out
    rw [← HI.out.he] at hle
    obtain ⟨r, hr⟩ : ∃ r, doP c n s x = r := ⟨_, rfl⟩
    have hst := fun cm1 st1 => step_inv HI.out H0.out.gd (by omega) H0.out.sz HOW.out x hr (cm1 := cm1) (st1 := st1)
    rw [hr] at HDO hsn
    clear hr
    obtain ⟨⟨mm, is, did, er⟩, s2⟩ := r
    simp only at hst hsn HDO
    obtain ⟨cm1, hcm1⟩ : ∃ cm1, cm1 = if x.k = 0 ∧ er = 0 ∧ x.m.ln = line then cm ++ [x.m] else cm := ⟨_, rfl⟩
    obtain ⟨st1, hst1⟩ : ∃ st1, st1 = if is = true ∧ mm.ln = line then st ++ [mm] else st := ⟨_, rfl⟩
    have HN3 := Lib.hid (nx3_of (by omega) (hst cm1 st1 hcm1 hst1))
    have HCM := Lib.hid hcm1
    have HST := Lib.hid hst1
    have hlc : cm.length ≤ 16 := by
      have h1 := congrArg List.length HI.out.hcm
      have h2 : (unst line s.Q).length ≤ s.Q.length := by unfold unst; rw [List.length_map]; exact List.length_filter_le _ _
      have h3 := H0.out.gd.q.short
      omega
    have hls : st.length ≤ 65 * k := by
      have h1 := congrArg List.length HI.out.hsd
      rw [List.length_append] at h1
      have := HI.out.few
      omega
    have hld : sd.length ≤ 65 * k := HI.out.few
    have HLC := Lib.hid hlc
    have HLS := Lib.hid hls
    have HLD := Lib.hid hld
    have HLE := Lib.hid hle
    clear hst hsn hcm1 hst1 hle HI hlc hls hld
    go_upto_region 18 with (first
      | ((with_reducible refine Qu.wpList_load_at (op := ⟨some 60, _, _, _, _, _⟩) rfl 40 (.tmp 59) rfl g (off + k * 20) ?lx (scells x) _ ?lc Tryz.underlying40 ?ld ?li ?_); (case lx => rfl); (case lc => exact HR.out); (case ld => rfl); (case li => kernel_rfl))
      | ((with_reducible refine wpList_store_row (o := ⟨none, _, _, _, _, _⟩) rfl 40 (.tmp 18) (.tmp 60) rfl (wr.heap.size) (scells x) ?sx ?sy 40 ?old ?sg ?si ?so ?s1 ?_); (case sx => rfl); (case sy => rfl); (case old => exact scells ⟨0, 0, 0, 0, 0, mz⟩); (case sg => exact heap_alloc_new wr _); (case si => kernel_rfl); (case so => rfl); (case s1 => kernel_rfl); have H1 := Lib.hid (H0.out.addRow (scells ⟨0, 0, 0, 0, 0, mz⟩) (scells x) 40); generalize World.setRow _ wr.heap.size (scells x) = w1 at *; generalize wr.heap.size = bx1 at *; clear H0)
      | ((with_reducible refine wpList_load_row (o := ⟨some 62, _, _, _, _, _⟩) rfl 40 (.tmp 18) rfl bx1 ?lx 40 (scells x) (0, 0) _ ?lg Tryz.underlying40 ?ld ?li ?_); (case lx => rfl); (case lg => exact H1.out.box (k := bx1) (o := .cells (scells x) 40 (0, 0)) (by simp)); (case ld => rfl); (case li => kernel_rfl))
      | (go_at_call 10; refine (HDO.out _ _ H1.out).mono ?_; rintro _ w2 ⟨rfl, ho⟩; have H2 := Lib.hid ho; clear ho H1)
      | ((with_reducible refine wpList_store_row (o := ⟨none, _, _, _, _, _⟩) rfl 42 (.tmp 19) (.tmp 63) rfl (w2.heap.size) (rcs (mm, is, did, er)) ?sx ?sy 42 ?old ?sg ?si ?so ?s1 ?_); (case sx => rfl); (case sy => rfl); (case old => exact rcs (mz, false, false, 0)); (case sg => exact heap_alloc_new w2 _); (case si => kernel_rfl); (case so => rfl); (case s1 => kernel_rfl); have H3 := Lib.hid (H2.out.addRow (rcs (mz, false, false, 0)) (rcs (mm, is, did, er)) 42); generalize World.setRow _ w2.heap.size (rcs (mm, is, did, er)) = w3 at *; generalize w2.heap.size = bd at *; clear H2))
    simp only [Act.put]
    clear HDO HR
    go_cut [78] (fun s78 wx => ∃ qa : Bool, s78 = .bool qa ∧ Hid (qa = decide (x.k = 0 ∧ er = 0 ∧ x.m.ln = line)) ∧ wx = w3)
    case first =>
      as_aux_lemma =>
      have hx3 := H3.out.cells (k := bx1) (cs := scells x) (t := 40) (by simp)
      have hd3 := H3.out.cells (k := bd) (cs := rcs (mm, is, did, er)) (t := 42) (by simp)
      by_cases k0 : x.k = 0
      · have q0 : (x.k == 0) = true := by simpa using k0
        by_cases k1 : er = 0
        · have q1 : (er == 0) = true := by simpa using k1
          by_cases k2 : x.m.ln = line
          · have q2 : (x.m.ln == line) = true := by simpa using k2
            have HV := Lib.hid (decide_eq_true (⟨k0, k1, k2⟩ : x.k = 0 ∧ er = 0 ∧ x.m.ln = line))
            clear k0 k1 k2
            go_wp2
            go_meet
            case rel => exact ⟨_, rfl, Lib.hid HV.out.symm, rfl⟩
          · have q2 : (x.m.ln == line) = false := by simpa using k2
            have HV := Lib.hid (decide_eq_false (fun h : x.k = 0 ∧ er = 0 ∧ x.m.ln = line => k2 h.2.2))
            clear k0 k1 k2
            go_wp2
            go_meet
            case rel => exact ⟨_, rfl, Lib.hid HV.out.symm, rfl⟩
        · have q1 : (er == 0) = false := by simpa using k1
          have HV := Lib.hid (decide_eq_false (fun h : x.k = 0 ∧ er = 0 ∧ x.m.ln = line => k1 h.2.1))
          clear k0 k1
          go_wp2
          go_meet
          case rel => exact ⟨_, rfl, Lib.hid HV.out.symm, rfl⟩
      · have q0 : (x.k == 0) = false := by simpa using k0
        have HV := Lib.hid (decide_eq_false (fun h : x.k = 0 ∧ er = 0 ∧ x.m.ln = line => k0 h.1))
        clear k0
        go_wp2
        go_meet
        case rel => exact ⟨_, rfl, Lib.hid HV.out.symm, rfl⟩
    case rest =>
    obtain ⟨qa, rfl, HQA, hw3⟩ := hcut
    replace hw3 := hw3.symm
    subst hw3
    go_upto_if 78 with fail
    go_cut [14] (fun s14 wx => ∃ zc1, Rw zc1 s14 cm1 ∧ Own w K c n s2 noX ((bd, .cells (rcs (mm, is, did, er)) 42 (0, 0)) :: (bx1, .cells (scells x) 40 (0, 0)) :: ((be, .cells (Sh.ecells e p1 cap1) 65 (0, 0)) :: (bw, .cells (Me.dcells d) 36 (0, 0)) :: (zs ++ (zc1 ++ (zd ++ (zt ++ [(w.heap.size, .cells (cfc c) 24 (0, 0))])))))) wx)
    case first =>
      rcases Bool.eq_false_or_eq_true qa with hqa | hqa
      · have HQ1 := Lib.hid (HCM.out.trans (if_pos (of_decide_eq_true (HQA.out.symm.trans hqa))))
        simp only [hqa]
        have hx3 := H3.out.cells (k := bx1) (cs := scells x) (t := 40) (by simp)
        go_wp2_with (first
          | ((with_reducible refine Qu.wpList_load_at (op := ⟨some 81, _, _, _, _, _⟩) rfl 38 (.tmp 80) rfl bx1 (5) ?lx (mcells x.m) _ ?lc Tryz.underlying38 ?ld ?li ?_); (case lx => rfl); (case lc => exact range_in hx3); (case ld => rfl); (case li => kernel_rfl))
          | (at_builtin; refine wpList_append_rw rfl (.tmp 79) (.tmp 82) rfl (zs := zc) (R := (w3.heap.size, .cells (mcells x.m) 38 (0, 0)) :: (bd, .cells (rcs (mm, is, did, er)) 42 (0, 0)) :: (bx1, .cells (scells x) 40 (0, 0)) :: ((be, .cells (Sh.ecells e p1 cap1) 65 (0, 0)) :: (bw, .cells (Me.dcells d) 36 (0, 0)) :: (zs ++ (zd ++ (zt ++ [(w.heap.size, .cells (cfc c) 24 (0, 0))]))))) (l := cm) (ms := [x.m]) (H3.out.add (.cells (mcells x.m) 38)) (by refine perm_by (fun a => ?_); simp only [List.count_append, List.count_cons, List.count_nil]; ac_rfl) HC0.out rfl ⟨w3.heap.size, 0, none⟩ 1 rfl (by simp) (by have := HLC.out; simp; omega) (news_one x.m) ?_; intro v' w' zs' hv' ho'; have HV1 := Lib.hid hv'; have HO1 := Lib.hid ho'; clear hv' ho'))
        go_meet
        case rel => exact ⟨zs', by rw [HQ1.out]; exact HV1.out, (HO1.out.perm (cx := (w3.heap.size, .cells (mcells x.m) 38 (0, 0)) :: (bd, .cells (rcs (mm, is, did, er)) 42 (0, 0)) :: (bx1, .cells (scells x) 40 (0, 0)) :: ((be, .cells (Sh.ecells e p1 cap1) 65 (0, 0)) :: (bw, .cells (Me.dcells d) 36 (0, 0)) :: (zs ++ (zs' ++ (zd ++ (zt ++ [(w.heap.size, .cells (cfc c) 24 (0, 0))])))))) (by refine perm_by (fun a => ?_); simp only [List.count_append, List.count_cons, List.count_nil]; ac_rfl)).drop⟩
      · have HQ1 := Lib.hid (HCM.out.trans (if_neg (of_decide_eq_false (HQA.out.symm.trans hqa))))
        simp only [hqa]
        go_wp2
        go_meet
        case rel => exact ⟨zc, by rw [HQ1.out]; exact HC0.out, H3.out⟩
    case rest =>
    obtain ⟨zc1, hc1, h4⟩ := hcut
    obtain ⟨w4, rfl⟩ : ∃ w4 : World, w4 = wc := ⟨_, rfl⟩
    have HC1 := Lib.hid hc1
    have H4 := Lib.hid h4
    clear hc1 h4 HC0 H3 HCM
    go_upto_region 20 with fail
    go_cut [92] (fun s92 wx => ∃ qa : Bool, s92 = .bool qa ∧ Hid (qa = decide (is = true ∧ mm.ln = line)) ∧ wx = w4)
    case first =>
      as_aux_lemma =>
      have hd4 := H4.out.cells (k := bd) (cs := rcs (mm, is, did, er)) (t := 42) (by simp)
      rcases Bool.eq_false_or_eq_true is with his | his
      rotate_left
      · have HV := Lib.hid (decide_eq_false (fun h : is = true ∧ mm.ln = line => absurd (his.symm.trans h.1) (by decide)))
        go_wp2
        go_meet
        case rel => exact ⟨_, rfl, Lib.hid HV.out.symm, rfl⟩
      · by_cases k2 : mm.ln = line
        · have q2 : (mm.ln == line) = true := by simpa using k2
          have HV := Lib.hid (decide_eq_true (⟨his, k2⟩ : is = true ∧ mm.ln = line))
          clear k2
          go_wp2
          go_meet
          case rel => exact ⟨_, rfl, Lib.hid HV.out.symm, rfl⟩
        · have q2 : (mm.ln == line) = false := by simpa using k2
          have HV := Lib.hid (decide_eq_false (fun h : is = true ∧ mm.ln = line => k2 h.2))
          clear k2
          go_wp2
          go_meet
          case rel => exact ⟨_, rfl, Lib.hid HV.out.symm, rfl⟩
    case rest =>
    obtain ⟨qa, rfl, HQA, hw4⟩ := hcut
    replace hw4 := hw4.symm
    subst hw4
    go_upto_if 92 with fail
    go_cut [16] (fun s16 wx => ∃ zt1, Rw zt1 s16 st1 ∧ Own w K c n s2 noX ((be, .cells (Sh.ecells e p1 cap1) 65 (0, 0)) :: (bw, .cells (Me.dcells d) 36 (0, 0)) :: (zs ++ (zc1 ++ (zd ++ (zt1 ++ [(w.heap.size, .cells (cfc c) 24 (0, 0))]))))) wx)
    case first =>
      rcases Bool.eq_false_or_eq_true qa with hqa | hqa
      · have HQ1 := Lib.hid (HST.out.trans (if_pos (of_decide_eq_true (HQA.out.symm.trans hqa))))
        simp only [hqa]
        have hd4 := H4.out.cells (k := bd) (cs := rcs (mm, is, did, er)) (t := 42) (by simp)
        go_wp2_with (first
          | ((with_reducible refine Qu.wpList_load_at (op := ⟨some 95, _, _, _, _, _⟩) rfl 38 (.tmp 94) rfl bd (0) ?lx (mcells mm) _ ?lc Tryz.underlying38 ?ld ?li ?_); (case lx => rfl); (case lc => exact range_rp (r := (mm, is, did, er)) hd4); (case ld => rfl); (case li => kernel_rfl))
          | (at_builtin; refine wpList_append_rw rfl (.tmp 93) (.tmp 96) rfl (zs := zt) (R := (w4.heap.size, .cells (mcells mm) 38 (0, 0)) :: (bd, .cells (rcs (mm, is, did, er)) 42 (0, 0)) :: (bx1, .cells (scells x) 40 (0, 0)) :: ((be, .cells (Sh.ecells e p1 cap1) 65 (0, 0)) :: (bw, .cells (Me.dcells d) 36 (0, 0)) :: (zs ++ (zc1 ++ (zd ++ [(w.heap.size, .cells (cfc c) 24 (0, 0))]))))) (l := st) (ms := [mm]) (H4.out.add (.cells (mcells mm) 38)) (by refine perm_by (fun a => ?_); simp only [List.count_append, List.count_cons, List.count_nil]; ac_rfl) HT0.out rfl ⟨w4.heap.size, 0, none⟩ 1 rfl (by simp) (by have := HLS.out; simp; omega) (news_one mm) ?_; intro v' w' zs' hv' ho'; have HV1 := Lib.hid hv'; have HO1 := Lib.hid ho'; clear hv' ho'))
        go_meet
        case rel => exact ⟨zs', by rw [HQ1.out]; exact HV1.out, (HO1.out.perm (cx := (w4.heap.size, .cells (mcells mm) 38 (0, 0)) :: (bd, .cells (rcs (mm, is, did, er)) 42 (0, 0)) :: (bx1, .cells (scells x) 40 (0, 0)) :: ((be, .cells (Sh.ecells e p1 cap1) 65 (0, 0)) :: (bw, .cells (Me.dcells d) 36 (0, 0)) :: (zs ++ (zc1 ++ (zd ++ (zs' ++ [(w.heap.size, .cells (cfc c) 24 (0, 0))])))))) (by refine perm_by (fun a => ?_); simp only [List.count_append, List.count_cons, List.count_nil]; ac_rfl)).drop.drop.drop⟩
      · have HQ1 := Lib.hid (HST.out.trans (if_neg (of_decide_eq_false (HQA.out.symm.trans hqa))))
        simp only [hqa]
        go_wp2
        go_meet
        case rel => exact ⟨zt, by rw [HQ1.out]; exact HT0.out, H4.out.drop.drop⟩
    case rest =>
    obtain ⟨zt1, ht1, h5⟩ := hcut
    obtain ⟨w5, rfl⟩ : ∃ w5 : World, w5 = wc := ⟨_, rfl⟩
    have HT1 := Lib.hid ht1
    have H5 := Lib.hid h5
    clear ht1 h5 HT0 H4 HST HS
    go_upto_region 24 with (first
      | (go_at_call 17; refine H5.out.queueF.mono ?_; rintro _ w6 ⟨pq, cq, M, rfl, hM, hin, -, hb⟩; have hml : M.length ≤ 16 := by {have h1 := congrArg List.length hM; rw [List.length_map] at h1; have h2 := H5.out.gd.q.short; omega}; have H6 := Lib.hid (H5.out.step hb); have HCW := Lib.hid (cntW_all (line := line) hM); have HIN := Lib.hid hin; clear hM hin hb H5))
    go_loopw [20, 101] (fun u i wr => ∃ (q : Nat), q ≤ M.length ∧ i = .int .i64 q ∧ u = .int .i64 (cntW line M q) ∧ Hid (Own w K c n s2 noX ((be, .cells (Sh.ecells e p1 cap1) 65 (0, 0)) :: (bw, .cells (Me.dcells d) 36 (0, 0)) :: (zs ++ (zc1 ++ (zd ++ (zt1 ++ [(w.heap.size, .cells (cfc c) 24 (0, 0))]))))) wr) ∧ Hid (Below w6.heap.size w6 wr)) (fun _ i _ => M.length - (intOf i).toNat)
    case atStart => exact ⟨0, Nat.zero_le _, rfl, rfl, H6, Lib.hid (Below.refl _ _)⟩
    case round =>
    clear H6
    obtain ⟨q, hq, rfl, rfl, H6, HB6⟩ := hrel
    by_cases hql : q < M.length
    · obtain ⟨y, hy⟩ : ∃ y, M[q]? = some y := ⟨_, List.getElem?_eq_getElem hql⟩
      obtain ⟨g2, o2, rfl, hg2, hr2⟩ := (HIN.out.step HB6.out).1 q y hy
      have HR2 := Lib.hid hr2
      have HNX := Lib.hid (cntW_next (line := line) hy)
      have hcl := cntW_le line M q
      clear hr2 hy
      rcases Bool.eq_false_or_eq_true (wq line y) with hwq | hwq
      · have q9 : (y.m.ln == line) = true ∧ y.st = false := by simpa [wq] using hwq
        obtain ⟨q1, q2⟩ := q9
        rw [hwq] at HNX
        clear hwq
        go_wp2_with (first
          | ((with_reducible refine Qu.wpList_load_at (op := ⟨some 104, _, _, _, _, _⟩) rfl 80 (.tmp 103) rfl g2 (o2 + q * 17) ?lx (Qu.ecells y) _ ?lc Tryz.underlying80 ?ld ?li ?_); (case lx => rfl); (case lc => exact HR2.out); (case ld => rfl); (case li => kernel_rfl))
          | ((with_reducible refine wpList_store_row (o := ⟨none, _, _, _, _, _⟩) rfl 80 (.tmp 22) (.tmp 104) rfl (wr.heap.size) (Qu.ecells y) ?sx ?sy 80 ?old ?sg ?si ?so ?s1 ?_); (case sx => rfl); (case sy => rfl); (case old => exact Qu.zec); (case sg => exact heap_alloc_new wr _); (case si => kernel_rfl); (case so => rfl); (case s1 => kernel_rfl); have H7 := Lib.hid (H6.out.addRow (Qu.zec) (Qu.ecells y) 80); have HB7 := Lib.hid (bstep HB6.out (Qu.below_box wr (.cells Qu.zec 80) (Qu.ecells y))); clear HB6; generalize World.setRow _ wr.heap.size (Qu.ecells y) = w7 at *; generalize wr.heap.size = bq at *; have hcq := H7.out.cells (k := bq) (cs := Qu.ecells y) (t := 80) (by simp); clear H6))
        go_roundw
        case rel => exact ⟨q + 1, by omega, by go_num, by rw [HNX.out]; go_num, Lib.hid H7.out.drop, HB7⟩
        case measure => simp [intOf]; omega
      · rw [hwq] at HNX
        rcases Bool.eq_false_or_eq_true (y.m.ln == line) with q1 | q1
        · have q2 : y.st = true := by simpa [wq, q1] using hwq
          clear hwq
          go_wp2_with (first
            | ((with_reducible refine Qu.wpList_load_at (op := ⟨some 104, _, _, _, _, _⟩) rfl 80 (.tmp 103) rfl g2 (o2 + q * 17) ?lx (Qu.ecells y) _ ?lc Tryz.underlying80 ?ld ?li ?_); (case lx => rfl); (case lc => exact HR2.out); (case ld => rfl); (case li => kernel_rfl))
            | ((with_reducible refine wpList_store_row (o := ⟨none, _, _, _, _, _⟩) rfl 80 (.tmp 22) (.tmp 104) rfl (wr.heap.size) (Qu.ecells y) ?sx ?sy 80 ?old ?sg ?si ?so ?s1 ?_); (case sx => rfl); (case sy => rfl); (case old => exact Qu.zec); (case sg => exact heap_alloc_new wr _); (case si => kernel_rfl); (case so => rfl); (case s1 => kernel_rfl); have H7 := Lib.hid (H6.out.addRow (Qu.zec) (Qu.ecells y) 80); have HB7 := Lib.hid (bstep HB6.out (Qu.below_box wr (.cells Qu.zec 80) (Qu.ecells y))); clear HB6; generalize World.setRow _ wr.heap.size (Qu.ecells y) = w7 at *; generalize wr.heap.size = bq at *; have hcq := H7.out.cells (k := bq) (cs := Qu.ecells y) (t := 80) (by simp); clear H6))
          go_roundw
          case rel => exact ⟨q + 1, by omega, by go_num, by rw [HNX.out]; go_num, Lib.hid H7.out.drop, HB7⟩
          case measure => simp [intOf]; omega
        · clear hwq
          go_wp2_with (first
            | ((with_reducible refine Qu.wpList_load_at (op := ⟨some 104, _, _, _, _, _⟩) rfl 80 (.tmp 103) rfl g2 (o2 + q * 17) ?lx (Qu.ecells y) _ ?lc Tryz.underlying80 ?ld ?li ?_); (case lx => rfl); (case lc => exact HR2.out); (case ld => rfl); (case li => kernel_rfl))
            | ((with_reducible refine wpList_store_row (o := ⟨none, _, _, _, _, _⟩) rfl 80 (.tmp 22) (.tmp 104) rfl (wr.heap.size) (Qu.ecells y) ?sx ?sy 80 ?old ?sg ?si ?so ?s1 ?_); (case sx => rfl); (case sy => rfl); (case old => exact Qu.zec); (case sg => exact heap_alloc_new wr _); (case si => kernel_rfl); (case so => rfl); (case s1 => kernel_rfl); have H7 := Lib.hid (H6.out.addRow (Qu.zec) (Qu.ecells y) 80); have HB7 := Lib.hid (bstep HB6.out (Qu.below_box wr (.cells Qu.zec 80) (Qu.ecells y))); clear HB6; generalize World.setRow _ wr.heap.size (Qu.ecells y) = w7 at *; generalize wr.heap.size = bq at *; have hcq := H7.out.cells (k := bq) (cs := Qu.ecells y) (t := 80) (by simp); clear H6))
          go_roundw
          case rel => exact ⟨q + 1, by omega, by go_num, by rw [HNX.out]; go_num, Lib.hid H7.out.drop, HB7⟩
          case measure => simp [intOf]; omega
    obtain rfl : q = M.length := by omega
    obtain ⟨wn, hwn⟩ : ∃ wn, cntW line M M.length = wn := ⟨_, rfl⟩
    have hun := HCW.out
    rw [hwn] at hun
    have HN4 := Lib.hid HN3.out
    rw [← hun] at HN4
    simp only [hwn]
    clear hwn hun HCW HN3 HIN HB6
    go_upto_region 29 with fail
    go_loopw [14, 15] (fun v14 v15 wr => ∃ (cm sd : List Msg) (e : Sh.En) (d : Me.Wd) (p : Option Addr) (cap : Nat) (zs zc zd : Bx) (pc pd : Option Addr) (cc cd Nc Nd : Nat), v14 = .slice pc Nc cc ∧ v15 = .slice pd Nd cd ∧ Hid (cm.length = Nc) ∧ Hid (sd.length = Nd) ∧ Hid (Rw zc (.slice pc Nc cc) cm) ∧ Hid (Rw zd (.slice pd Nd cd) sd) ∧ Hid (NumsAt zs p e.s.l) ∧ Hid (Nx3 c n line (k + 1) s2 st1 wn cm sd e d) ∧ Hid (Own w K c n s2 noX ((be, .cells (Sh.ecells e p cap) 65 (0, 0)) :: (bw, .cells (Me.dcells d) 36 (0, 0)) :: (zs ++ (zc ++ (zd ++ (zt1 ++ [(w.heap.size, .cells (cfc c) 24 (0, 0))]))))) wr)) (fun v14 _ _ => lenV v14)
    case atStart =>
      obtain ⟨pc, cc, e14, -, -⟩ := rw_min HC1.out
      obtain ⟨pd, cd, e15, -, -⟩ := rw_min HD0.out
      exact ⟨cm1, sd, e, d, p1, cap1, zs, zc1, zd, pc, pd, cc, cd, _, _, e14, e15, Lib.hid rfl, Lib.hid rfl, Lib.hid (by rw [← e14]; exact HC1.out), Lib.hid (by rw [← e15]; exact HD0.out), HZ, HN4, H6⟩
    case round =>
    clear H6 HN4 HC1 HD0 HZ
    obtain ⟨cm2, sd2, e2, d2, p2, cap2, zs2, zc2, zd2, pc, pd, cc, cd, Nc, Nd, rfl, rfl, HNC, HND, HC2, HD2, HZ2, HN2, H7⟩ := hrel
    obtain ⟨w7, rfl⟩ : ∃ w7 : World, w7 = wr := ⟨_, rfl⟩
    rcases HN2.out with ⟨hle2, hI⟩ | ⟨m, rest, rfl, hrl, hel, hnx⟩
    · have hg29 : ¬ wn < Nc := by
        have := HNC.out
        omega
      obtain ⟨R, hR⟩ : ∃ R, rem line s2.Q = R := ⟨_, rfl⟩
      have hsd := hI.hsd
      rw [hR] at hsd
      obtain rfl := hsd
      have hg38 : ¬ Nd < st1.length := by
        have := HND.out
        rw [List.length_append] at this
        omega
      have HE2 := Lib.hid (fun (wr : World) (bx : Bx) (h : Own w K c n s2 noX bx wr) => HE.out _ wr bx h)
      have HL2 := Lib.hid (fun (wr : World) (bx : Bx) (h : Own w K c n s2 noX bx wr) => HL.out _ wr bx h)
      rw [← hI.he] at HE2
      rw [← hI.hd] at HL2
      have HLE2 : Hid (e2.s.l.length ≤ 5000) := Lib.hid (by have h1 := H7.out.ent_len HOW.out; rw [← hI.he] at h1; omega)
      have HI := Lib.hid hI
      have HSL : Hid (st1.length ≤ 5000) := Lib.hid (by have h1 := hI.few; rw [List.length_append] at h1; omega)
      clear hI hle2 hR HN2
      obtain ⟨ps, cs, e16, -, hsm⟩ := rw_min HT1.out
      obtain ⟨sl, pq2, cq2, hsl, hrun, hdm⟩ := rw_head HD2.out
      have HSM := Lib.hid hsm
      have HDM := Lib.hid hdm
      clear hsm hdm
      simp only [e16]
      go_upto_region 38 with (first
        | (go_at_call 18; refine (HE2.out _ _ H7.out).mono ?_; rintro _ w8 ⟨p3, cap3, rfl, hn, hb, hf⟩; obtain ⟨zs3, ho, hz⟩ := H7.out.gains hb hn hf; have H8 := Lib.hid ho; have HZ3 := Lib.hid hz; clear ho hz hb hn hf H7)
        | ((with_reducible refine wpList_store_row (o := ⟨none, _, _, _, _, _⟩) rfl 65 (.tmp 25) (.tmp 158) rfl (w8.heap.size) (Sh.ecells e2 p3 cap3) ?sx ?sy 65 ?old ?sg ?si ?so ?s1 ?_); (case sx => rfl); (case sy => rfl); (case old => exact Sh.zec); (case sg => exact heap_alloc_new w8 _); (case si => kernel_rfl); (case so => rfl); (case s1 => kernel_rfl); have H9 := Lib.hid (H8.out.addRow (Sh.zec) (Sh.ecells e2 p3 cap3) 65); generalize World.setRow _ w8.heap.size (Sh.ecells e2 p3 cap3) = w9 at *; generalize w8.heap.size = b5 at *; clear H8)
        | (go_at_call 19; refine (HL2.out _ _ H9.out).mono ?_; rintro _ w10 ⟨rfl, hb⟩; have H10 := Lib.hid (H9.out.step hb); clear hb H9)
        | ((with_reducible refine wpList_store_row (o := ⟨none, _, _, _, _, _⟩) rfl 36 (.tmp 27) (.tmp 164) rfl (w10.heap.size) (Me.dcells d2) ?sx ?sy 36 ?old ?sg ?si ?so ?s1 ?_); (case sx => rfl); (case sy => rfl); (case old => exact Me.dcells Me.d0); (case sg => exact heap_alloc_new w10 _); (case si => kernel_rfl); (case so => rfl); (case s1 => kernel_rfl); have H11 := Lib.hid (H10.out.addRow (Me.dcells Me.d0) (Me.dcells d2) 36); generalize World.setRow _ w10.heap.size (Me.dcells d2) = w11 at *; generalize w10.heap.size = b7 at *; clear H10))
      clear HE2 HL2
      go_cut [194] (fun s194 wx => s194 = .bool false ∧ Own w K c n s2 noX ((b7, .cells (Me.dcells d2) 36 (0, 0)) :: (b5, .cells (Sh.ecells e2 p3 cap3) 65 (0, 0)) :: (zs3 ++ ((be, .cells (Sh.ecells e2 p2 cap2) 65 (0, 0)) :: (bw, .cells (Me.dcells d2) 36 (0, 0)) :: (zs2 ++ (zc2 ++ (zd2 ++ (zt1 ++ [(w.heap.size, .cells (cfc c) 24 (0, 0))]))))))) wx)
      case first =>
        as_aux_lemma =>
        have he11 := H11.out.cells (k := be) (cs := Sh.ecells e2 p2 cap2) (t := 65) (by simp)
        have hwn : ∀ w, (binOp .neq 36 (.agg (Me.dcells d2)) (.agg (Me.dcells d2))).run Tryz.prog w = .ok (.bool false) w := fun w => by rw [Me.words_neq, Me.eqW_iff.2 rfl]; rfl
        subst hsl
        go_wp2_with (first
          | ((with_reducible refine wpList_load_row (o := ⟨some 166, _, _, _, _, _⟩) rfl 65 (.tmp 25) rfl b5 ?lx 65 (Sh.ecells e2 p3 cap3) (0, 0) _ ?lg Tryz.underlying65 ?ld ?li ?_); (case lx => rfl); (case lg => exact H11.out.box (k := b5) (o := .cells (Sh.ecells e2 p3 cap3) 65 (0, 0)) (by simp)); (case ld => rfl); (case li => kernel_rfl))
          | ((with_reducible refine Qu.wpList_load_at (op := ⟨some 170, _, _, _, _, _⟩) rfl 63 (.tmp 169) rfl be (1) ?lx (Sh.sval e2.s p2 cap2) _ ?lc Tryz.underlying63 ?ld ?li ?_); (case lx => rfl); (case lc => exact range_set he11); (case ld => rfl); (case li => kernel_rfl))
          | (go_at_call 22; refine (same_yes e2 p3 p2 cap3 cap2 _ HLE2.out (HZ3.out _ (fun q hq => H11.out.box (by simp [hq]))) (HZ2.out _ (fun q hq => H11.out.box (by simp [hq])))).mono ?_; rintro _ w12 ⟨rfl, hb⟩; have H12 := Lib.hid (H11.out.step hb); clear hb)
          | ((with_reducible refine Qu.wpList_load_guarded (o := ⟨some 175, _, _, _, _, _⟩) ?lw 36 (.tmp 27) rfl b7 ?lx 36 (Me.dcells d2) (0, 0) _ ?lg Tryz.underlying36 ?ld ?li ?_); (case lw => rfl); (case lx => rfl); (case lg => exact H12.out.box (k := b7) (o := .cells (Me.dcells d2) 36 (0, 0)) (by simp)); (case ld => rfl); (case li => kernel_rfl))
          | ((with_reducible refine Qu.wpList_load_guarded (o := ⟨some 176, _, _, _, _, _⟩) ?lw 36 (.tmp 13) rfl bw ?lx 36 (Me.dcells d2) (0, 0) _ ?lg Tryz.underlying36 ?ld ?li ?_); (case lw => rfl); (case lx => rfl); (case lg => exact H12.out.box (k := bw) (o := .cells (Me.dcells d2) 36 (0, 0)) (by simp)); (case ld => rfl); (case li => kernel_rfl))
          | (go_at_call 24; refine (same_msgs ps pq2 cs cq2 st1 _ HSL.out (HSM.out _ (fun q hq => H12.out.box (by simp [hq]))) (HDM.out _ (fun q hq => H12.out.box (by simp [hq])))).mono ?_; rintro _ w13 ⟨rfl, hb⟩; have H13 := Lib.hid (H12.out.step hb); clear hb))
        go_meet
        case rel => exact ⟨rfl, H13.out⟩
      case rest =>
      obtain ⟨rfl, h12⟩ := hcut
      obtain ⟨w12, rfl⟩ : ∃ w12 : World, w12 = wc := ⟨_, rfl⟩
      have H12 := Lib.hid h12
      clear h12 H11
      go_wp2
      go_roundw
      case rel => exact ⟨k + 1, s2, cm2, _, st1, e2, d2, p2, cap2, zs2, zc2, zd2, zt1, by omega, by go_num, HC2, HD2, by rw [← e16]; exact HT1, HZ2, HI, Lib.hid H12.out.drop.drop.dropAll⟩
      case measure => simp [intOf]; omega
    have hNc : Nc = wn + 1 := by
      have := HNC.out
      simp only [List.length_cons] at this
      omega
    subst hNc
    obtain ⟨t, er, ht, hcase⟩ : ∃ t er, Sh.nextT e2 m (w8Of d2) = (t, er) ∧ ((er = 7 ∧ 0 < s2.od) ∨ er = 0 ∧ OInv c n line (k + 1) s2 rest (sd2 ++ t.sent) st1 t.e (if t.wr = true then wdOf m else d2)) := by
      rcases hnx with ⟨t, h1, h2⟩ | ⟨t, h1, h2⟩
      · exact ⟨t, 7, h1, .inl ⟨rfl, h2⟩⟩
      · exact ⟨t, 0, h1, .inr ⟨rfl, h2⟩⟩
    have HNT := Lib.hid ht
    have HCS := Lib.hid hcase
    have HRL := Lib.hid hrl
    have HEL := Lib.hid hel
    obtain ⟨sl, hrun, htl⟩ := rw_tail HC2.out
    obtain ⟨pc3, cc3, rfl, -, -⟩ := rw_min htl
    obtain ⟨g2, o2, rfl, hmr⟩ : ∃ g2 o2, pc = some ⟨g2, o2, none⟩ ∧ ∀ W, Holds zc2 W → W.rangeAt g2 o2 (mcells m).toList := by
      obtain ⟨pc', cc', e1, -, hmn⟩ := rw_min HC2.out
      obtain ⟨rfl, -, rfl⟩ : pc = pc' ∧ _ ∧ cc = cc' := by simpa using e1
      obtain ⟨g2, o2, rfl, -, -⟩ := hmn _ (fun q hq => H7.out.box (by simp [hq])) 0 m rfl
      refine ⟨g2, o2, rfl, fun W hW => ?_⟩
      obtain ⟨g3, o3, e3, -, hr3⟩ := hmn W hW 0 m rfl
      cases e3
      rw [Nat.zero_mul, Nat.add_zero] at hr3
      exact hr3
    have HMR := Lib.hid hmr
    have HTL := Lib.hid htl
    have HRUN := Lib.hid hrun
    clear hnx ht hcase hrl hel hmr htl hrun HN2
    go_upto_region 30 with fail
    go_cut [23, 24] (fun s23 s24 wx => ∃ mt p6 cap6 q6 qc6 zs6, s23 = .pointer (some ⟨mt, 0, none⟩) ∧ s24 = .int .i64 er ∧ NumsAt zs6 p6 t.e.s.l ∧ Qu.MIn wx q6 t.sent ∧ (∀ a, q6 = some a → a.block ≠ be ∧ a.block ≠ bw) ∧ Own w K c n s2 noX ((mt, .cells (Sh.tcells t p6 cap6 (.slice q6 t.sent.length qc6)) 82 (0, 0)) :: (zs6 ++ ((be, .cells (Sh.ecells e2 p2 cap2) 65 (0, 0)) :: (bw, .cells (Me.dcells d2) 36 (0, 0)) :: (zs2 ++ (zc2 ++ (zd2 ++ (zt1 ++ [(w.heap.size, .cells (cfc c) 24 (0, 0))]))))))) wx)
    case first =>
      as_aux_lemma =>
      have hbe := H7.out.drew.lt (k := be) (o := .cells (Sh.ecells e2 p2 cap2) 65 (0, 0)) (by simp)
      have hbw := H7.out.drew.lt (k := bw) (o := .cells (Me.dcells d2) 36 (0, 0)) (by simp)
      have HBE := Lib.hid hbe
      have HBW := Lib.hid hbw
      clear hbe hbw
      refine wp_region_noPanic ?_
      refine wp_region_held_drew (S := (fun w' : World => (∀ o, w'.cell? ⟨K.h, o, none⟩ = (hcells c n K s2.od)[o]?) ∧ (∀ o, w'.cell? ⟨be, o, none⟩ = (Sh.ecells e2 p2 cap2)[o]?) ∧ (∀ o, w'.cell? ⟨bw, o, none⟩ = (Me.dcells d2)[o]?) ∧ w'.rangeAt g2 o2 (mcells m).toList)) (by kernel_rfl) ⟨H7.out.hc, H7.out.cells (t := 65) (by simp), H7.out.cells (t := 36) (by simp), HMR.out _ (fun q hq => H7.out.box (by simp [hq]))⟩ (fun hh0 => ?_)
      replace H7 := Lib.hid H7.out.drew
      generalize World.drew w7 = w7 at *
      refine wpAnyH_take (fuel := 11) (i := 0) (oi := ⟨some 123, _, _, _, _, _⟩) (v := Sh.ev e2 p2 cap2) rfl (by kernel_rfl) (by kernel_rfl) (by kernel_rfl) (fun _ _ _ h => h) (Or.inl ⟨by rfl, ?_⟩) hh0 ?_
      · rintro w' ⟨-, c0, -, -⟩
        go_simp
      simp only [Act.put, List.setIfInBounds_toArray, List.set_cons_zero, List.set_cons_succ]
      refine wpAnyH_take (fuel := 10) (i := 1) (oi := ⟨some 124, _, _, _, _, _⟩) (v := .slice (some ⟨g2, o2, none⟩) (wn + 1) cc) rfl (by kernel_rfl) (by kernel_rfl) (by kernel_rfl) (fun _ _ _ h => h) (Or.inl ⟨by rfl, ?_⟩) hh0 ?_
      · intro w' _
        go_simp
      simp only [Act.put, List.setIfInBounds_toArray, List.set_cons_zero, List.set_cons_succ]
      refine wpAnyH_take (fuel := 9) (i := 2) (oi := ⟨some 125, _, _, _, _, _⟩) (v := .pointer (some ⟨g2, o2, none⟩)) rfl (by kernel_rfl) (by kernel_rfl) (by kernel_rfl) (fun _ _ _ h => h) (Or.inl ⟨by rfl, ?_⟩) hh0 ?_
      · intro w' _
        go_simp
      simp only [Act.put, List.setIfInBounds_toArray, List.set_cons_zero, List.set_cons_succ]
      refine wpAnyH_take (fuel := 8) (i := 3) (oi := ⟨some 126, _, _, _, _, _⟩) (v := .agg (mcells m)) rfl (by kernel_rfl) (by kernel_rfl) (by kernel_rfl) (fun _ _ _ h => h) (yieldsIf_load_mid (by rfl) 38 (.tmp 125) rfl g2 o2 rfl (mcells m).toList _ (fun W hS => hS.2.2.2) Tryz.underlying38 rfl (by kernel_rfl)) hh0 ?_
      simp only [Act.put, List.setIfInBounds_toArray, List.set_cons_zero, List.set_cons_succ]
      refine wpAnyH_take (fuel := 7) (i := 4) (oi := ⟨some 127, _, _, _, _, _⟩) (v := .agg (Me.dcells d2)) rfl (by kernel_rfl) (by kernel_rfl) (by kernel_rfl) (fun _ _ _ h => h) (Or.inl ⟨by rfl, ?_⟩) hh0 ?_
      · rintro w' ⟨-, -, c0, -⟩
        go_simp
      simp only [Act.put, List.setIfInBounds_toArray, List.set_cons_zero, List.set_cons_succ]
      refine wpAnyH_ready (fuel := 6) (rs := [5, 9]) (by kernel_rfl) (by simp) ?_
      refine AllReadyH.cons (o := ⟨some 128, _, _, _, _, _⟩) rfl (fun P hP => ?_) (AllReadyH.cons (o := ⟨some 23, _, _, _, _, _⟩) rfl (fun P hP => ?_) AllReadyH.nil)
      · go_simp
        refine (next_isF HNT.out p2 cap2 _ HEL.out (by first | exact HZ2.out w7 (fun q hq => H7.out.box (by simp [hq])) | exact (HZ2.out w7 (fun q hq => H7.out.box (by simp [hq]))).step (Qu.balloc _ _))).mono ?_
        rintro e w9 ⟨p6, cap6, q6, qc6, rfl, hn6, hm6, hb6, hf6, hq6⟩
        obtain ⟨zs6, ho6, hz6⟩ := H7.out.gains hb6 hn6 hf6
        have H9 := Lib.hid ho6
        have HZ6 := Lib.hid hz6
        have HM6 := Lib.hid (min_of hm6)
        have HQ0 := Lib.hid hq6
        have HQ6 : Hid (∀ a, q6 = some a → a.block ≠ be ∧ a.block ≠ bw) := Lib.hid (fun a ha => by have h1 := hq6 a ha; have h2 := HBE.out; have h3 := HBW.out; (try simp at h1); exact ⟨by omega, by omega⟩)
        clear hn6 hm6 hb6 hf6 hq6 ho6 hz6
        show P _ _
        refine hP.out _ _ (⟨H9.out.hc, H9.out.cells (t := 65) (by simp), H9.out.cells (t := 36) (by simp), HMR.out _ (fun q hq => H9.out.box (by simp [hq]))⟩) (fun hh1 => ?_)
        clear hP P hh0
        refine wpAnyH_take (fuel := 5) (i := 6) (oi := ⟨some 122, _, _, _, _, _⟩) (v := .tuple #[.agg (Sh.tcells t p6 cap6 (.slice q6 t.sent.length qc6)), .int .i64 er]) rfl (by kernel_rfl) (by kernel_rfl) (by kernel_rfl) (fun _ _ _ h => h) (Or.inl ⟨by rfl, ?_⟩) hh1 ?_
        · intro w' _
          go_simp
        simp only [Act.put, List.setIfInBounds_toArray, List.set_cons_zero, List.set_cons_succ]
        refine wpAnyH_take (fuel := 4) (i := 7) (oi := ⟨some 129, _, _, _, _, _⟩) (v := .agg (Sh.tcells t p6 cap6 (.slice q6 t.sent.length qc6))) rfl (by kernel_rfl) (by kernel_rfl) (by kernel_rfl) (fun _ _ _ h => h) (Or.inl ⟨by rfl, ?_⟩) hh1 ?_
        · intro w' _
          go_simp
        simp only [Act.put, List.setIfInBounds_toArray, List.set_cons_zero, List.set_cons_succ]
        refine wpAnyH_take (fuel := 3) (i := 8) (oi := ⟨some 130, _, _, _, _, _⟩) (v := .int .i64 er) rfl (by kernel_rfl) (by kernel_rfl) (by kernel_rfl) (fun _ _ _ h => h) (Or.inl ⟨by rfl, ?_⟩) hh1 ?_
        · intro w' _
          go_simp
        simp only [Act.put, List.setIfInBounds_toArray, List.set_cons_zero, List.set_cons_succ]
        refine wpAnyH_ready (fuel := 2) (rs := [9]) (by kernel_rfl) (by simp) ?_
        refine AllReadyH.cons (o := ⟨some 23, _, _, _, _, _⟩) rfl (fun P hP => ?_) AllReadyH.nil
        go_simp
        have H9a := Lib.hid (H9.out.add (.cells Sh.ztc 82))
        show P _ _
        refine hP.out _ _ (⟨H9a.out.hc, H9a.out.cells (t := 65) (by simp), H9a.out.cells (t := 36) (by simp), HMR.out _ (fun q hq => H9a.out.box (by simp [hq]))⟩) (fun hh2 => ?_)
        clear hP P hh1
        try simp only [Act.put, List.setIfInBounds_toArray, List.set_cons_zero, List.set_cons_succ]
        refine wpAnyH_ready (fuel := 1) (rs := [10]) (by kernel_rfl) (by simp) ?_
        refine AllReadyH.cons (o := ⟨none, _, _, _, _, _⟩) rfl (fun P hP => ?_) AllReadyH.nil
        rw [if_pos (by rfl)]
        refine wp_store_row 82 (.tmp 23) (.tmp 129) rfl (w9.heap.size) (Sh.tcells t p6 cap6 (.slice q6 t.sent.length qc6)) rfl rfl 82 (Sh.ztc) (H9a.out.box (List.mem_cons_self ..)) (by kernel_rfl) rfl (by kernel_rfl) ?_
        have H9as := Lib.hid (H9a.out.setRow (cs' := Sh.tcells t p6 cap6 (.slice q6 t.sent.length qc6)))
        refine hP.out _ _ (⟨H9as.out.hc, H9as.out.cells (t := 65) (by simp), H9as.out.cells (t := 36) (by simp), HMR.out _ (fun q hq => H9as.out.box (by simp [hq]))⟩) (fun hh3 => ?_)
        clear hP P hh2
        simp only [Act.put]
        refine wpAnyH_take (fuel := 0) (i := 11) (oi := ⟨some 24, _, _, _, _, _⟩) (v := .int .i64 er) rfl (by kernel_rfl) (by kernel_rfl) (by kernel_rfl) (fun _ _ _ h => h) (Or.inl ⟨by rfl, ?_⟩) hh3 ?_
        · intro w' _
          go_simp
        simp only [Act.put, List.setIfInBounds_toArray, List.set_cons_zero, List.set_cons_succ]
        refine wpAnyH_done (by kernel_rfl) ?_ _
        refine NoPanic.normal ?_
        clear hh3
        have HE9 := Lib.hid (HM6.out.step (Qu.below_box w9 (.cells Sh.ztc 82) (Sh.tcells t p6 cap6 (.slice q6 t.sent.length qc6))))
        go_wp2
        go_meet
        case rel => exact ⟨_, p6, cap6, q6, qc6, zs6, rfl, rfl, HZ6.out, HE9.out, HQ6.out, H9as.out⟩
      · go_simp
        have H7a := Lib.hid (H7.out.add (.cells Sh.ztc 82))
        show P _ _
        refine hP.out _ _ (⟨H7a.out.hc, H7a.out.cells (t := 65) (by simp), H7a.out.cells (t := 36) (by simp), HMR.out _ (fun q hq => H7a.out.box (by simp [hq]))⟩) (fun hh1 => ?_)
        clear hP P hh0
        try simp only [Act.put, List.setIfInBounds_toArray, List.set_cons_zero, List.set_cons_succ]
        refine wpAnyH_ready (fuel := 5) (rs := [5]) (by kernel_rfl) (by simp) ?_
        refine AllReadyH.cons (o := ⟨some 128, _, _, _, _, _⟩) rfl (fun P hP => ?_) AllReadyH.nil
        go_simp
        refine (next_isF HNT.out p2 cap2 _ HEL.out (by first | exact HZ2.out w7 (fun q hq => H7.out.box (by simp [hq])) | exact (HZ2.out w7 (fun q hq => H7.out.box (by simp [hq]))).step (Qu.balloc _ _))).mono ?_
        rintro e w9 ⟨p6, cap6, q6, qc6, rfl, hn6, hm6, hb6, hf6, hq6⟩
        obtain ⟨zs6, ho6, hz6⟩ := H7a.out.gains hb6 hn6 hf6
        have H9 := Lib.hid (ho6.perm List.perm_middle)
        have HZ6 := Lib.hid hz6
        have HM6 := Lib.hid (min_of hm6)
        have HQ0 := Lib.hid hq6
        have HQ6 : Hid (∀ a, q6 = some a → a.block ≠ be ∧ a.block ≠ bw) := Lib.hid (fun a ha => by have h1 := hq6 a ha; have h2 := HBE.out; have h3 := HBW.out; (try simp at h1); exact ⟨by omega, by omega⟩)
        clear hn6 hm6 hb6 hf6 hq6 ho6 hz6
        show P _ _
        refine hP.out _ _ (⟨H9.out.hc, H9.out.cells (t := 65) (by simp), H9.out.cells (t := 36) (by simp), HMR.out _ (fun q hq => H9.out.box (by simp [hq]))⟩) (fun hh2 => ?_)
        clear hP P hh1
        refine wpAnyH_take (fuel := 4) (i := 6) (oi := ⟨some 122, _, _, _, _, _⟩) (v := .tuple #[.agg (Sh.tcells t p6 cap6 (.slice q6 t.sent.length qc6)), .int .i64 er]) rfl (by kernel_rfl) (by kernel_rfl) (by kernel_rfl) (fun _ _ _ h => h) (Or.inl ⟨by rfl, ?_⟩) hh2 ?_
        · intro w' _
          go_simp
        simp only [Act.put, List.setIfInBounds_toArray, List.set_cons_zero, List.set_cons_succ]
        refine wpAnyH_take (fuel := 3) (i := 7) (oi := ⟨some 129, _, _, _, _, _⟩) (v := .agg (Sh.tcells t p6 cap6 (.slice q6 t.sent.length qc6))) rfl (by kernel_rfl) (by kernel_rfl) (by kernel_rfl) (fun _ _ _ h => h) (Or.inl ⟨by rfl, ?_⟩) hh2 ?_
        · intro w' _
          go_simp
        simp only [Act.put, List.setIfInBounds_toArray, List.set_cons_zero, List.set_cons_succ]
        refine wpAnyH_take (fuel := 2) (i := 8) (oi := ⟨some 130, _, _, _, _, _⟩) (v := .int .i64 er) rfl (by kernel_rfl) (by kernel_rfl) (by kernel_rfl) (fun _ _ _ h => h) (Or.inl ⟨by rfl, ?_⟩) hh2 ?_
        · intro w' _
          go_simp
        simp only [Act.put, List.setIfInBounds_toArray, List.set_cons_zero, List.set_cons_succ]
        refine wpAnyH_ready (fuel := 1) (rs := [10]) (by kernel_rfl) (by simp) ?_
        refine AllReadyH.cons (o := ⟨none, _, _, _, _, _⟩) rfl (fun P hP => ?_) AllReadyH.nil
        rw [if_pos (by rfl)]
        refine wp_store_row 82 (.tmp 23) (.tmp 129) rfl (w7.heap.size) (Sh.tcells t p6 cap6 (.slice q6 t.sent.length qc6)) rfl rfl 82 (Sh.ztc) (H9.out.box (List.mem_cons_self ..)) (by kernel_rfl) rfl (by kernel_rfl) ?_
        have H9s := Lib.hid (H9.out.setRow (cs' := Sh.tcells t p6 cap6 (.slice q6 t.sent.length qc6)))
        refine hP.out _ _ (⟨H9s.out.hc, H9s.out.cells (t := 65) (by simp), H9s.out.cells (t := 36) (by simp), HMR.out _ (fun q hq => H9s.out.box (by simp [hq]))⟩) (fun hh3 => ?_)
        clear hP P hh2
        simp only [Act.put]
        refine wpAnyH_take (fuel := 0) (i := 11) (oi := ⟨some 24, _, _, _, _, _⟩) (v := .int .i64 er) rfl (by kernel_rfl) (by kernel_rfl) (by kernel_rfl) (fun _ _ _ h => h) (Or.inl ⟨by rfl, ?_⟩) hh3 ?_
        · intro w' _
          go_simp
        simp only [Act.put, List.setIfInBounds_toArray, List.set_cons_zero, List.set_cons_succ]
        refine wpAnyH_done (by kernel_rfl) ?_ _
        refine NoPanic.normal ?_
        clear hh3
        have HE9 := Lib.hid (min_row HM6.out w7.heap.size (Sh.tcells t p6 cap6 (.slice q6 t.sent.length qc6)) (fun a ha => by have := HQ0.out a ha; simp at this; omega))
        go_wp2
        go_meet
        case rel => exact ⟨_, p6, cap6, q6, qc6, zs6, rfl, rfl, HZ6.out, HE9.out, HQ6.out, H9s.out⟩
    case rest =>
    obtain ⟨mt, p6, cap6, q6, qc6, zs6, rfl, rfl, hz6, hm6, hq6, h8⟩ := hcut
    obtain ⟨w8, rfl⟩ : ∃ w8 : World, w8 = wc := ⟨_, rfl⟩
    have H8 := Lib.hid h8
    have HZ6 := Lib.hid hz6
    have HM6 := Lib.hid hm6
    have HQ6 := Lib.hid hq6
    clear h8 hz6 hm6 hq6 H7
    rcases HCS.out with ⟨rfl, hod⟩ | ⟨rfl, hI⟩
    · have hg32 : decide (0 < s2.od) = true := by simpa using hod
      clear hod HCS
      go_wp2_with (go_at_call 14; refine H8.out.oddF.mono ?_; rintro _ w9 ⟨rfl, rfl⟩)
      go_ret
      exact ⟨rfl, H8.out.bl⟩
    have HI := Lib.hid hI
    clear hI HCS
    go_upto_region 33 with fail
    have hct : w8.cell? ⟨mt, 6, none⟩ = some (.bool t.wr) := H8.out.cells (k := mt) (cs := Sh.tcells t p6 cap6 (.slice q6 t.sent.length qc6)) (t := 82) (by simp) 6
    go_cut [141] (fun s141 wx => s141 = .bool t.wr ∧ wx = w8)
    case first =>
      as_aux_lemma =>
      go_wp2
      go_meet
      case rel => exact ⟨rfl, rfl⟩
    case rest =>
    obtain ⟨rfl, hw8⟩ := hcut
    replace hw8 := hw8.symm
    subst hw8
    clear hct
    obtain ⟨d3, hd3⟩ : ∃ d3, (if t.wr = true then wdOf m else d2) = d3 := ⟨_, rfl⟩
    rw [hd3] at HI
    obtain ⟨tw, htw⟩ : ∃ tw, t.wr = tw := ⟨_, rfl⟩
    simp only [htw]
    rw [htw] at hd3
    have HD3 := Lib.hid hd3
    clear hd3 
    go_upto_if 141 with fail
    go_cut [141] (fun s141 wx => Own w K c n s2 noX ((mt, .cells (Sh.tcells t p6 cap6 (.slice q6 t.sent.length qc6)) 82 (0, 0)) :: (zs6 ++ ((be, .cells (Sh.ecells e2 p2 cap2) 65 (0, 0)) :: (bw, .cells (Me.dcells d3) 36 (0, 0)) :: (zs2 ++ (zc2 ++ (zd2 ++ (zt1 ++ [(w.heap.size, .cells (cfc c) 24 (0, 0))]))))))) wx ∧ Qu.MIn wx q6 t.sent)
    case first =>
      as_aux_lemma =>
      rcases Bool.eq_false_or_eq_true tw with hqa | hqa
      · have HE3 : Hid (wdOf m = d3) := Lib.hid (by have := HD3.out; rw [hqa] at this; simpa using this)
        simp only [hqa]
        go_wp2_with (first
          | ((with_reducible refine Qu.wpList_load_at (op := ⟨some 145, _, _, _, _, _⟩) rfl 36 (.tmp 144) rfl g2 (o2 + 7) ?lx (Me.dcells (wdOf m)) _ ?lc Tryz.underlying36 ?ld ?li ?_); (case lx => rfl); (case lc => exact range_w7 (HMR.out _ (fun q hq => H8.out.box (by simp [hq])))); (case ld => rfl); (case li => kernel_rfl))
          | ((with_reducible refine wpList_store_row (o := ⟨none, _, _, _, _, _⟩) rfl 36 (.tmp 13) (.tmp 145) rfl (bw) (Me.dcells (wdOf m)) ?sx ?sy 36 ?old ?sg ?si ?so ?s1 ?_); (case sx => rfl); (case sy => rfl); (case old => exact Me.dcells d2); (case sg => exact H8.out.box (k := bw) (o := .cells (Me.dcells d2) 36 (0, 0)) (by simp)); (case si => kernel_rfl); (case so => rfl); (case s1 => kernel_rfl); have H9 := Lib.hid (((H8.out.perm (cx := (bw, .cells (Me.dcells d2) 36 (0, 0)) :: ((mt, .cells (Sh.tcells t p6 cap6 (.slice q6 t.sent.length qc6)) 82 (0, 0)) :: (zs6 ++ ((be, .cells (Sh.ecells e2 p2 cap2) 65 (0, 0)) :: (zs2 ++ (zc2 ++ (zd2 ++ (zt1 ++ [(w.heap.size, .cells (cfc c) 24 (0, 0))])))))))) (by refine perm_by (fun a => ?_); simp only [List.count_append, List.count_cons, List.count_nil]; ac_rfl)).setRow (cs' := Me.dcells (wdOf m))).perm (cx := ((mt, .cells (Sh.tcells t p6 cap6 (.slice q6 t.sent.length qc6)) 82 (0, 0)) :: (zs6 ++ ((be, .cells (Sh.ecells e2 p2 cap2) 65 (0, 0)) :: (bw, .cells (Me.dcells (wdOf m)) 36 (0, 0)) :: (zs2 ++ (zc2 ++ (zd2 ++ (zt1 ++ [(w.heap.size, .cells (cfc c) 24 (0, 0))])))))))) (by refine perm_by (fun a => ?_); simp only [List.count_append, List.count_cons, List.count_nil]; ac_rfl)); have HM9 := Lib.hid (min_row HM6.out bw (Me.dcells (wdOf m)) (fun a ha => (HQ6.out a ha).2)); generalize World.setRow _ bw (Me.dcells (wdOf m)) = w9 at *))
        go_meet
        case rel => exact ⟨by rw [← HE3.out]; exact H9.out, HM9.out⟩
      · have HE3 : Hid (d2 = d3) := Lib.hid (by have := HD3.out; rw [hqa] at this; simpa using this)
        simp only [hqa]
        go_wp2
        go_meet
        case rel => exact ⟨by rw [← HE3.out]; exact H8.out, HM6.out⟩
    case rest =>
    obtain ⟨h9, hm9⟩ := hcut
    obtain ⟨w9, rfl⟩ : ∃ w9 : World, w9 = wc := ⟨_, rfl⟩
    obtain ⟨ad, rfl, hnews⟩ := news_min (hm9.step (Below.refl _ _).drew) (next_sent HNT.out)
    have H9 := Lib.hid h9
    have HNW := Lib.hid hnews
    clear h9 hm9 hnews H8 HM6
    go_upto_region 35 with fail
    refine wp_region_noPanic ?_
    refine wp_region_held_drew (S := (fun w' : World => (∀ o, w'.cell? ⟨K.h, o, none⟩ = (hcells c n K s2.od)[o]?) ∧ (∀ o, w'.cell? ⟨mt, o, none⟩ = (Sh.tcells t p6 cap6 (.slice (some ad) t.sent.length qc6))[o]?))) (by kernel_rfl) ⟨H9.out.hc, H9.out.cells (t := 82) (by simp)⟩ (fun hh0 => ?_)
    replace H9 := Lib.hid H9.out.drew
    generalize World.drew w9 = w9 at *
    refine wpAnyH_take (fuel := 10) (i := 0) (oi := ⟨some 146, _, _, _, _, _⟩) (v := .pointer (some ⟨mt, 0, none⟩)) rfl (by kernel_rfl) (by kernel_rfl) (by kernel_rfl) (fun _ _ _ h => h) (Or.inl ⟨by rfl, ?_⟩) hh0 ?_
    · intro w' _
      go_simp
    simp only [Act.put, List.setIfInBounds_toArray, List.set_cons_zero, List.set_cons_succ]
    refine wpAnyH_take (fuel := 9) (i := 1) (oi := ⟨some 147, _, _, _, _, _⟩) (v := Sh.ev t.e p6 cap6) rfl (by kernel_rfl) (by kernel_rfl) (by kernel_rfl) (fun _ _ _ h => h) (Or.inl ⟨by rfl, ?_⟩) hh0 ?_
    · rintro w' ⟨-, c0⟩
      go_simp
    simp only [Act.put, List.setIfInBounds_toArray, List.set_cons_zero, List.set_cons_succ]
    refine wpAnyH_take (fuel := 8) (i := 2) (oi := ⟨some 148, _, _, _, _, _⟩) (v := .slice pd Nd cd) rfl (by kernel_rfl) (by kernel_rfl) (by kernel_rfl) (fun _ _ _ h => h) (Or.inl ⟨by rfl, ?_⟩) hh0 ?_
    · intro w' _
      go_simp
    simp only [Act.put, List.setIfInBounds_toArray, List.set_cons_zero, List.set_cons_succ]
    refine wpAnyH_take (fuel := 7) (i := 3) (oi := ⟨some 149, _, _, _, _, _⟩) (v := .pointer (some ⟨mt, 5, none⟩)) rfl (by kernel_rfl) (by kernel_rfl) (by kernel_rfl) (fun _ _ _ h => h) (Or.inl ⟨by rfl, ?_⟩) hh0 ?_
    · intro w' _
      go_simp
    simp only [Act.put, List.setIfInBounds_toArray, List.set_cons_zero, List.set_cons_succ]
    refine wpAnyH_take (fuel := 6) (i := 4) (oi := ⟨some 150, _, _, _, _, _⟩) (v := .slice (some ad) t.sent.length qc6) rfl (by kernel_rfl) (by kernel_rfl) (by kernel_rfl) (fun _ _ _ h => h) (Or.inl ⟨by rfl, ?_⟩) hh0 ?_
    · rintro w' ⟨-, c0⟩
      go_simp
    simp only [Act.put, List.setIfInBounds_toArray, List.set_cons_zero, List.set_cons_succ]
    refine wpAnyH_take (fuel := 5) (i := 6) (oi := ⟨some 152, _, _, _, _, _⟩) (v := .slice (some ⟨g2, o2, none⟩) (wn + 1) cc) rfl (by kernel_rfl) (by kernel_rfl) (by kernel_rfl) (fun _ _ _ h => h) (Or.inl ⟨by rfl, ?_⟩) hh0 ?_
    · intro w' _
      go_simp
    simp only [Act.put, List.setIfInBounds_toArray, List.set_cons_zero, List.set_cons_succ]
    refine wpAnyH_take (fuel := 4) (i := 7) (oi := ⟨some 153, _, _, _, _, _⟩) (v := .slice pc3 rest.length cc3) rfl (by kernel_rfl) (by kernel_rfl) (by kernel_rfl) (fun _ _ _ h => h) (Or.inl ⟨by rfl, ?_⟩) hh0 ?_
    · intro w' _
      have hrun := HRUN.out w'
      go_simp
    simp only [Act.put, List.setIfInBounds_toArray, List.set_cons_zero, List.set_cons_succ]
    refine wpAnyH_ready (fuel := 3) (rs := [5]) (by kernel_rfl) (by simp) ?_
    refine AllReadyH.cons (o := ⟨some 151, _, _, _, _, _⟩) rfl (fun P hP => ?_) AllReadyH.nil
    rw [if_pos (by rfl)]
    refine wp_append_rw (.tmp 148) (.tmp 150) rfl (zs := zd2) (R := ((mt, .cells (Sh.tcells t p6 cap6 (.slice (some ad) t.sent.length qc6)) 82 (0, 0)) :: (zs6 ++ ((be, .cells (Sh.ecells e2 p2 cap2) 65 (0, 0)) :: (bw, .cells (Me.dcells d3) 36 (0, 0)) :: (zs2 ++ (zc2 ++ (zt1 ++ [(w.heap.size, .cells (cfc c) 24 (0, 0))]))))))) (l := sd2) (ms := t.sent) H9.out (by refine perm_by (fun a => ?_); simp only [List.count_append, List.count_cons, List.count_nil]; ac_rfl) HD2.out rfl ad qc6 rfl (List.length_pos_iff.2 (next_sent HNT.out)) (by have h1 := HI.out.few; rw [List.length_append] at h1; omega) HNW.out ?_
    intro v' w10 zs7 hv' ho'
    obtain ⟨pd3, cd3, rfl, -, -⟩ := rw_min hv'
    have HV := Lib.hid hv'
    have H10 := Lib.hid ho'
    clear hv' ho'
    refine hP.out _ _ (⟨H10.out.hc, H10.out.cells (t := 82) (by simp)⟩) (fun hh1 => ?_)
    clear hP P hh0
    try simp only [Act.put, List.setIfInBounds_toArray, List.set_cons_zero, List.set_cons_succ]
    refine wpAnyH_ready (fuel := 2) (rs := [8]) (by kernel_rfl) (by simp) ?_
    refine AllReadyH.cons (o := ⟨none, _, _, _, _, _⟩) rfl (fun P hP => ?_) AllReadyH.nil
    rw [if_pos (by rfl)]
    refine wp_store_row 65 (.tmp 11) (.tmp 147) rfl be (Sh.ecells t.e p6 cap6) rfl rfl 65 (Sh.ecells e2 p2 cap2) (H10.out.box (k := be) (by simp)) (by kernel_rfl) rfl (by kernel_rfl) ?_
    have H11 := Lib.hid ((H10.out.perm (cx := (be, .cells (Sh.ecells e2 p2 cap2) 65 (0, 0)) :: (zs7 ++ ((mt, .cells (Sh.tcells t p6 cap6 (.slice (some ad) t.sent.length qc6)) 82 (0, 0)) :: (zs6 ++ ((bw, .cells (Me.dcells d3) 36 (0, 0)) :: (zs2 ++ (zc2 ++ (zt1 ++ [(w.heap.size, .cells (cfc c) 24 (0, 0))])))))))) (by refine perm_by (fun a => ?_); simp only [List.count_append, List.count_cons, List.count_nil]; ac_rfl)).setRow (cs' := Sh.ecells t.e p6 cap6))
    refine hP.out _ _ (⟨H11.out.hc, H11.out.cells (t := 82) (by simp)⟩) (fun hh2 => ?_)
    clear hP P hh1
    simp only [Act.put]
    refine wpAnyH_take (fuel := 1) (i := 9) (oi := ⟨some 15, _, _, _, _, _⟩) (v := .slice pd3 (sd2 ++ t.sent).length cd3) rfl (by kernel_rfl) (by kernel_rfl) (by kernel_rfl) (fun _ _ _ h => h) (Or.inl ⟨by rfl, ?_⟩) hh2 ?_
    · intro w' _
      go_simp
    simp only [Act.put, List.setIfInBounds_toArray, List.set_cons_zero, List.set_cons_succ]
    refine wpAnyH_take (fuel := 0) (i := 10) (oi := ⟨some 14, _, _, _, _, _⟩) (v := .slice pc3 rest.length cc3) rfl (by kernel_rfl) (by kernel_rfl) (by kernel_rfl) (fun _ _ _ h => h) (Or.inl ⟨by rfl, ?_⟩) hh2 ?_
    · intro w' _
      go_simp
    simp only [Act.put, List.setIfInBounds_toArray, List.set_cons_zero, List.set_cons_succ]
    refine wpAnyH_done (by kernel_rfl) ?_ _
    refine NoPanic.normal ?_
    clear hh2
    go_wp2
    go_roundw
    case rel => exact ⟨rest, sd2 ++ t.sent, t.e, d3, p6, cap6, zs6, zc2, zs7, pc3, pd3, cc3, cd3, _, _, rfl, rfl, Lib.hid rfl, Lib.hid rfl, HTL, HV, HZ6, Lib.hid (.inl ⟨HRL.out, HI.out⟩), Lib.hid (H11.out.perm (cx := (mt, .cells (Sh.tcells t p6 cap6 (.slice (some ad) t.sent.length qc6)) 82 (0, 0)) :: (zs2 ++ ((be, .cells (Sh.ecells t.e p6 cap6) 65 (0, 0)) :: (bw, .cells (Me.dcells d3) 36 (0, 0)) :: (zs6 ++ (zc2 ++ (zs7 ++ (zt1 ++ [(w.heap.size, .cells (cfc c) 24 (0, 0))]))))))) (by refine perm_by (fun a => ?_); simp only [List.count_append, List.count_cons, List.count_nil]; ac_rfl)).drop.dropAll⟩
    case measure => (have := HRL.out; simp only [lenV]; omega)

end Go.Proofs.YtpknfbgnclgpmaaGreatDoor.Ho
