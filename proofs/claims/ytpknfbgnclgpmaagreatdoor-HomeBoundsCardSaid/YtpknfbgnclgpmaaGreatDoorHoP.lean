/-
  HomeBounds is true: a home never has more requests than its Buffer; nothing is sent where there is no room; what is done for one request leaves the entries of other lines as they are.
-/
import Derived.Test.YtpknfbgnclgpmaaGreatDoorHoO
namespace Go.Proofs.YtpknfbgnclgpmaaGreatDoor.Ho
open Go Go.RowKit

/-- The place of a step's request, as the law finds it. -/
theorem of_cases (s : Hs) (x : Sp) {M : List Qu.Ep} (hM : M.map Qu.Ep.pl = s.Q) :
    ((x.k == 1) = false ∧ ofP s x = -1) ∨ ((x.k == 1) = true ∧ (decide (0 ≤ x.n) = false ∧ ofP s x = -1 ∨ decide (0 ≤ x.n) = true ∧ (decide (x.n < (M.length : Int)) = false ∧ ofP s x = -1 ∨ decide (x.n < (M.length : Int)) = true ∧ ∃ (i : Nat) (e : Qu.Ep), x.n = i ∧ M[i]? = some e ∧ i < M.length ∧ ofP s x = e.m.ln))) := by
  have hl : s.Q.length = M.length := by rw [← hM, List.length_map]
  unfold ofP
  by_cases h1 : x.k = 1
  · right
    refine ⟨by simpa using h1, ?_⟩
    rw [if_pos h1]
    by_cases h2 : 0 ≤ x.n
    · right
      refine ⟨by simpa using h2, ?_⟩
      by_cases h3 : x.n < (M.length : Int)
      · right
        obtain ⟨i, hi⟩ : ∃ i : Nat, x.n = i := ⟨x.n.toNat, by omega⟩
        have hlt : i < M.length := by omega
        have hq : s.Q[i]? = some (M[i]).pl := by rw [← hM, List.getElem?_map, List.getElem?_eq_getElem hlt]; rfl
        refine ⟨by simpa using h3, i, M[i], hi, List.getElem?_eq_getElem _, hlt, ?_⟩
        rw [hi, Qu.inn_at hq]
        rfl
      · left
        refine ⟨by simpa using h3, ?_⟩
        rw [Qu.inn_out (.inr (by omega))]
    · left
      refine ⟨by simpa using h2, ?_⟩
      rw [Qu.inn_out (.inl (by omega))]
  · left
    refine ⟨by simpa using h1, ?_⟩
    rw [if_neg h1]
theorem tell_len {w0 wr : World} {K : Kb} {c : Cfg} {n : Int} {s : Hs} {X : Nat → Obj → Prop} {bx : Bx} (h : Own w0 K c n s X bx wr) (y : Int) : (tellE c n s y).s.l.length ≤ 8 := by
  unfold tellE
  rcases Bool.eq_false_or_eq_true (ownB c n y) with hy | hy
  · rw [if_pos hy]; exact may_len (h.gd.en y hy).may
  · rw [if_neg (by simp [hy])]; exact Nat.zero_le _
def OfQ (M : List Qu.Ep) (x : Sp) (ov : Int) (v : Value) : Prop := (v = .bool false ∧ ov = -1) ∨ (v = .bool true ∧ ∃ (i : Nat) (e : Qu.Ep), x.n = i ∧ M[i]? = some e ∧ i < M.length ∧ ov = e.m.ln)
theorem eq_same (d : Me.Wd) : Me.eqW d d = true := Me.eqW_iff.2 rfl
theorem range_set {w : World} {k : Nat} {e : Sh.En} {p : Option Addr} {cap : Nat} (h : ∀ i, w.cell? ⟨k, i, none⟩ = (Sh.ecells e p cap)[i]?) : w.rangeAt k 1 (Sh.sval e.s p cap).toList := fun j u hj => by
  rw [h]
  have hl := (List.getElem?_eq_some_iff.1 hj).1
  simp at hl
  rcases (show j = 0 ∨ j = 1 ∨ j = 2 ∨ j = 3 by omega) with rfl | rfl | rfl | rfl <;> exact hj
set_option maxRecDepth 100000 in
set_option maxHeartbeats 8000000 in
theorem homeBounds_any (c : Cfg) (n : Int) (p : Option Addr) (cap : Nat) (l : List Sp) (line : Int) (w : World) (hc : c.fits) (hT : Tb w) (hS : StepsA w p l) (hlen : l.length ≤ 9223372036854775807) (hwf : (Lit.int .i64 line).wf = true) :
    Calls Tryz.prog 5 #[cv c, .int .i64 n, .slice p l.length cap, .int .i64 line] w fun e w' => e = .returned (.bool true) ∧ Below w.heap.size w w' := by
  have HB0 := Lib.hid ((Qu.mv_add (w0 := w) (.cells (cfc c) 24)) _ _ (bx_nil w)).1
  have HS := Lib.hid hS
  have HT := Lib.hid hT
  have HC := Lib.hid hc
  have HWF := Lib.hid hwf
  have HA := Lib.hid (fun w1 (h : Below w.heap.size w w1) => awake_any w1 (hT.keeps h))
  clear hT hS hwf
  have hlrg : ∃ q, lrgB c = q := ⟨_, rfl⟩
  obtain ⟨q, hq⟩ := hlrg
  have HL := Lib.hid (fun w1 => large_is hq w1)
  clear hq
  have hnn : ∀ (w : World) (k : Nat), (binOp .eql 28 (ptr k) (.pointer none)).run Tryz.prog w = .ok (.bool false) w := fun w k => by kernel_rfl
  have hn0 : ∀ (w : World), (binOp .eql 28 (.pointer none) (.pointer none)).run Tryz.prog w = .ok (.bool true) w := fun w => by kernel_rfl
  by_cases h60 : 60 < l.length
  · have d60 : decide (60 < (l.length : Int)) = true := by simp; omega
    go_enter Tryz.func5, Tryz.ntmps5
    go_wp2_with (go_at_call 6; refine (HA.out _ HB0.out.bl).mono ?_; rintro _ w1 ⟨rfl, hb1⟩; have HB1 := Lib.hid (bx_step HB0.out hb1); clear hb1)
    go_ret
    exact ⟨rfl, HB1.out.bl⟩
  have d60 : decide (60 < (l.length : Int)) = false := by simp; omega
  cases q with
  | true =>
    go_enter Tryz.func5, Tryz.ntmps5
    go_wp2_with (first
      | (go_at_call 6; refine (HA.out _ HB0.out.bl).mono ?_; rintro _ w1 ⟨rfl, hb1⟩; have HB1 := Lib.hid (bx_step HB0.out hb1); have hc1 := Qu.blk_cell (HB1.out.at_ _ (List.mem_cons_self ..)).1; clear hb1)
      | (go_at_call 7; refine (HL.out _).mono ?_; rintro _ w2 ⟨rfl, hb2⟩; have HB2 := Lib.hid (bx_step HB1.out hb2); clear hb2))
    go_ret
    exact ⟨rfl, HB2.out.bl⟩
  | false =>
  by_cases hbad : okC c = false ∨ okC c = true ∧ (n < 0 ∨ ¬ n < 0 ∧ c.ho ≤ n)
  · have HN := Lib.hid (fun w1 => newH_bad c n w1 HC.out hbad)
    clear hbad
    go_enter Tryz.func5, Tryz.ntmps5
    go_wp2_with (first
      | (go_at_call 6; refine (HA.out _ HB0.out.bl).mono ?_; rintro _ w1 ⟨rfl, hb1⟩; have HB1 := Lib.hid (bx_step HB0.out hb1); have hc1 := Qu.blk_cell (HB1.out.at_ _ (List.mem_cons_self ..)).1; clear hb1)
      | (go_at_call 7; refine (HL.out _).mono ?_; rintro _ w2 ⟨rfl, hb2⟩; have HB2 := Lib.hid (bx_step HB1.out hb2); have hc2 := Qu.blk_cell (HB2.out.at_ _ (List.mem_cons_self ..)).1; clear hb2 hc1)
      | (go_at_call 8; refine (HN.out _).mono ?_; rintro _ w3 ⟨rfl, hb3⟩; have HB3 := Lib.hid (bx_step HB2.out hb3); clear hb3 hc2))
    go_ret
    exact ⟨rfl, HB3.out.bl⟩
  have hok : okC c = true := by
    rcases Bool.eq_false_or_eq_true (okC c) with h | h
    · exact h
    · exact absurd (.inl h) hbad
  have h0 : 0 ≤ n := by
    by_cases h : n < 0
    · exact absurd (.inr ⟨hok, .inl h⟩) hbad
    · omega
  have h1 : n < c.ho := by
    by_cases h : c.ho ≤ n
    · exact absurd (.inr ⟨hok, .inr ⟨by omega, h⟩⟩) hbad
    · omega
  have HN := Lib.hid (fun w1 (hB : Qu.Bx w (fun _ => False) noX [(w.heap.size, .cells (cfc c) 24 (0, 0))] w1) => newH_yes hB HC.out HT.out hok h0 h1)
  clear hbad hok h0 h1 h60
  go_enter Tryz.func5, Tryz.ntmps5
  go_wp2_with (first
    | (go_at_call 6; refine (HA.out _ HB0.out.bl).mono ?_; rintro _ w1 ⟨rfl, hb1⟩; have HB1 := Lib.hid (bx_step HB0.out hb1); have hc1 := Qu.blk_cell (HB1.out.at_ _ (List.mem_cons_self ..)).1; clear hb1)
    | (go_at_call 7; refine (HL.out _).mono ?_; rintro _ w2 ⟨rfl, hb2⟩; have HB2 := Lib.hid (bx_step HB1.out hb2); have hc2 := Qu.blk_cell (HB2.out.at_ _ (List.mem_cons_self ..)).1; clear hb2 hc1)
    | (go_at_call 8; refine (HN.out _ HB2.out).mono ?_; rintro _ w3 ⟨K, rfl, ho, -⟩; have H3 := Lib.hid ho; clear ho hc2))
  clear HN HL HA HB0 HB1 HB2 hnn hn0
  go_loopw [44] (fun i wr => ∃ (k : Nat) (s : Hs), k ≤ l.length ∧ i = .int .i64 k ∧ Hid (Own w K c n s noX [(w.heap.size, .cells (cfc c) 24 (0, 0))] wr)) (fun i _ => l.length - (intOf i).toNat)
  case atStart => exact ⟨0, _, Nat.zero_le _, rfl, H3⟩
  case round =>
    obtain ⟨k, s, hk, rfl, H0⟩ := hrel
    clear H3
    by_cases hlt : k = l.length
    · subst hlt
      go_wp2
      go_ret
      exact ⟨rfl, H0.out.bl⟩
    replace hlt : k < l.length := by omega
    obtain ⟨g, off, rfl, -, hrx⟩ := (HS.out.step H0.out.bl) k hlt
    obtain ⟨x, hx⟩ : ∃ x, l[k] = x := ⟨_, rfl⟩
    rw [hx] at hrx
    clear hx
    have HR := Lib.hid hrx
    clear hrx
    have HDO := Lib.hid (fun (wr : World) (bx : Bx) (h : Own w K c n s noX bx wr) => h.doF x)
    have hot := fun h => do_other (c := c) (n := n) (s := s) H0.out.sz x (y := line) h
    have hsn := do_sends H0.out.gd x
    have HOT := Lib.hid hot
    have HSN := Lib.hid hsn
    have HQ := Lib.hid (fun (M : List Qu.Ep) => of_cases s x (M := M))
    clear hot hsn
    obtain ⟨ov, hov⟩ : ∃ ov, ofP s x = ov := ⟨_, rfl⟩
    rw [hov] at HOT HSN HQ
    clear hov
    generalize doP c n s x = r at *
    obtain ⟨⟨mm, is, did, er⟩, s2⟩ := r
    simp only at HOT HSN HDO
    obtain ⟨e1, he1⟩ : ∃ e1, tellE c n s line = e1 := ⟨_, rfl⟩
    obtain ⟨d1, hd1⟩ : ∃ d1, tellL c n s line = d1 := ⟨_, rfl⟩
    obtain ⟨e2, he2⟩ : ∃ e2, tellE c n s2 line = e2 := ⟨_, rfl⟩
    obtain ⟨d2, hd2⟩ : ∃ d2, tellL c n s2 line = d2 := ⟨_, rfl⟩
    have HE1 := Lib.hid (fun (wr : World) (bx : Bx) (h : Own w K c n s noX bx wr) => h.entryF line HWF.out)
    have HL1 := Lib.hid (fun (wr : World) (bx : Bx) (h : Own w K c n s noX bx wr) => h.lineF line HWF.out)
    have HE2 := Lib.hid (fun (wr : World) (bx : Bx) (h : Own w K c n s2 noX bx wr) => h.entryF line HWF.out)
    have HL2 := Lib.hid (fun (wr : World) (bx : Bx) (h : Own w K c n s2 noX bx wr) => h.lineF line HWF.out)
    obtain ⟨HLE, -⟩ : (∃ h : Hid (e1.s.l.length ≤ 8), True) ∧ True := ⟨⟨Lib.hid (by rw [← he1]; exact tell_len H0.out line), trivial⟩, trivial⟩
    obtain ⟨HLE, -⟩ := HLE
    rw [he1, he2, hd1, hd2] at HOT
    rw [he1] at HE1
    rw [hd1] at HL1
    rw [he2] at HE2
    rw [hd2] at HL2
    clear he1 he2 hd1 hd2
    go_upto_region 15 with (first
      | ((with_reducible refine Qu.wpList_load_at (op := ⟨some 47, _, _, _, _, _⟩) rfl 40 (.tmp 46) rfl g (off + k * 20) ?lx (scells x) _ ?lc Tryz.underlying40 ?ld ?li ?_); (case lx => rfl); (case lc => exact HR.out); (case ld => rfl); (case li => kernel_rfl))
      | ((with_reducible refine wpList_store_row (o := ⟨none, _, _, _, _, _⟩) rfl 40 (.tmp 12) (.tmp 47) rfl (wr.heap.size) (scells x) ?sx ?sy 40 ?old ?sg ?si ?so ?s1 ?_); (case sx => rfl); (case sy => rfl); (case old => exact scells ⟨0, 0, 0, 0, 0, mz⟩); (case sg => exact heap_alloc_new wr _); (case si => kernel_rfl); (case so => rfl); (case s1 => kernel_rfl); have H1 := Lib.hid (H0.out.addRow (scells ⟨0, 0, 0, 0, 0, mz⟩) (scells x) 40); generalize World.setRow _ wr.heap.size (scells x) = w1 at *; generalize wr.heap.size = bx1 at *; clear H0)
      | (go_at_call 18; refine (HE1.out _ _ H1.out).mono ?_; rintro _ w2 ⟨p1, cap1, rfl, hn, hb, hf⟩; obtain ⟨zs1, ho, hz1⟩ := H1.out.gains hb hn hf; have H2 := Lib.hid ho; have HZ1 := Lib.hid hz1; clear ho hz1 hn hb hf H1)
      | ((with_reducible refine wpList_store_row (o := ⟨none, _, _, _, _, _⟩) rfl 65 (.tmp 13) (.tmp 52) rfl (w2.heap.size) (Sh.ecells e1 p1 cap1) ?sx ?sy 65 ?old ?sg ?si ?so ?s1 ?_); (case sx => rfl); (case sy => rfl); (case old => exact Sh.zec); (case sg => exact heap_alloc_new w2 _); (case si => kernel_rfl); (case so => rfl); (case s1 => kernel_rfl); have H3 := Lib.hid (H2.out.addRow (Sh.zec) (Sh.ecells e1 p1 cap1) 65); generalize World.setRow _ w2.heap.size (Sh.ecells e1 p1 cap1) = w3 at *; generalize w2.heap.size = be1 at *; clear H2)
      | (go_at_call 19; refine (HL1.out _ _ H3.out).mono ?_; rintro _ w4 ⟨rfl, hb⟩; have H4 := Lib.hid (H3.out.step hb); clear hb H3)
      | ((with_reducible refine wpList_store_row (o := ⟨none, _, _, _, _, _⟩) rfl 36 (.tmp 15) (.tmp 58) rfl (w4.heap.size) (Me.dcells d1) ?sx ?sy 36 ?old ?sg ?si ?so ?s1 ?_); (case sx => rfl); (case sy => rfl); (case old => exact Me.dcells Me.d0); (case sg => exact heap_alloc_new w4 _); (case si => kernel_rfl); (case so => rfl); (case s1 => kernel_rfl); have H5 := Lib.hid (H4.out.addRow (Me.dcells Me.d0) (Me.dcells d1) 36); generalize World.setRow _ w4.heap.size (Me.dcells d1) = w5 at *; generalize w4.heap.size = bl1 at *; clear H4)
      | (go_at_call 17; refine H5.out.queueF.mono ?_; rintro _ w6 ⟨pq, cq, M, rfl, hM, hin, -, hb⟩; have H6 := Lib.hid (H5.out.step hb); have HM := Lib.hid hM; have HIN := Lib.hid hin; clear hM hin hb H5))
    go_cut [76] (fun s76 wx => OfQ M x ov s76 ∧ wx = w6)
    case first =>
      as_aux_lemma =>
      have hx6 := H6.out.cells (k := bx1) (cs := scells x) (t := 40) (by simp)
      rcases HQ.out M HM.out with ⟨q1, rfl⟩ | ⟨q1, ⟨q2, rfl⟩ | ⟨q2, ⟨q3, rfl⟩ | ⟨q3, i, e, q4, q5, q6, rfl⟩⟩⟩
      · go_wp2
        go_meet
        case rel => exact ⟨.inl ⟨rfl, rfl⟩, rfl⟩
      · go_wp2
        go_meet
        case rel => exact ⟨.inl ⟨rfl, rfl⟩, rfl⟩
      · go_wp2
        go_meet
        case rel => exact ⟨.inl ⟨rfl, rfl⟩, rfl⟩
      · have HI := Lib.hid (⟨i, e, q4, q5, q6, rfl⟩ : ∃ (i : Nat) (e' : Qu.Ep), x.n = i ∧ M[i]? = some e' ∧ i < M.length ∧ e.m.ln = e'.m.ln)
        clear q4 q5 q6
        go_wp2
        go_meet
        case rel => exact ⟨.inr ⟨rfl, HI.out⟩, rfl⟩
    case rest =>
    as_aux_lemma =>
    obtain ⟨hof, hw6⟩ := hcut
    replace hw6 := hw6.symm
    subst hw6
    have HOF := Lib.hid hof
    clear hof
    go_upto_if 76 with fail
    go_cut [17] (fun s17 wx => s17 = .int .i64 ov ∧ Own w K c n s noX ((bl1, .cells (Me.dcells d1) 36 (0, 0)) :: (be1, .cells (Sh.ecells e1 p1 cap1) 65 (0, 0)) :: (zs1 ++ ((bx1, .cells (scells x) 40 (0, 0)) :: [(w.heap.size, .cells (cfc c) 24 (0, 0))]))) wx)
    case first =>
      as_aux_lemma =>
      rcases HOF.out with ⟨rfl, rfl⟩ | ⟨rfl, i, e, q4, q5, q6, rfl⟩
      · go_wp2
        go_meet
        case rel => exact ⟨rfl, H6.out⟩
      · obtain ⟨g2, o2, rfl, hg2, hr2⟩ := HIN.out.1 i e q5
        have hcl : w6.cell? ⟨g2, o2 + i * 17 + 1, none⟩ = some (.int .i64 e.m.ln) := hr2 1 _ rfl
        have hn6 : w6.cell? ⟨bx1, 1, none⟩ = some (.int .i64 (i : Int)) := by rw [← q4]; exact H6.out.cells (k := bx1) (cs := scells x) (t := 40) (by simp) 1
        clear hr2 q5 q4
        go_wp2
        go_meet
        case rel => exact ⟨rfl, H6.out⟩
    case rest =>
      as_aux_lemma =>
      obtain ⟨rfl, h7⟩ := hcut
      obtain ⟨w7, rfl⟩ : ∃ w7 : World, w7 = wc := ⟨_, rfl⟩
      have H7 := Lib.hid h7
      clear h7 H6 HM HIN HQ HE1 HL1
      go_upto_region 20 with (first
        | ((with_reducible refine wpList_load_row (o := ⟨some 85, _, _, _, _, _⟩) rfl 40 (.tmp 12) rfl bx1 ?lx 40 (scells x) (0, 0) _ ?lg Tryz.underlying40 ?ld ?li ?_); (case lx => rfl); (case lg => exact H7.out.box (k := bx1) (o := .cells (scells x) 40 (0, 0)) (by simp)); (case ld => rfl); (case li => kernel_rfl))
        | (go_at_call 10; refine (HDO.out _ _ H7.out).mono ?_; rintro _ w8 ⟨rfl, ho⟩; have H8 := Lib.hid ho; clear ho H7)
        | ((with_reducible refine wpList_store_row (o := ⟨none, _, _, _, _, _⟩) rfl 42 (.tmp 19) (.tmp 86) rfl (w8.heap.size) (rcs (mm, is, did, er)) ?sx ?sy 42 ?old ?sg ?si ?so ?s1 ?_); (case sx => rfl); (case sy => rfl); (case old => exact rcs (mz, false, false, 0)); (case sg => exact heap_alloc_new w8 _); (case si => kernel_rfl); (case so => rfl); (case s1 => kernel_rfl); have H9 := Lib.hid (H8.out.addRow (rcs (mz, false, false, 0)) (rcs (mm, is, did, er)) 42); generalize World.setRow _ w8.heap.size (rcs (mm, is, did, er)) = w9 at *; generalize w8.heap.size = bd at *; clear H8)
        | (go_at_call 18; refine (HE2.out _ _ H9.out).mono ?_; rintro _ w10 ⟨p2, cap2, rfl, hn, hb, hf⟩; obtain ⟨zs2, ho, hz2⟩ := H9.out.gains hb hn hf; have H10 := Lib.hid ho; have HZ2 := Lib.hid hz2; clear ho hz2 hn hb hf H9)
        | ((with_reducible refine wpList_store_row (o := ⟨none, _, _, _, _, _⟩) rfl 65 (.tmp 20) (.tmp 91) rfl (w10.heap.size) (Sh.ecells e2 p2 cap2) ?sx ?sy 65 ?old ?sg ?si ?so ?s1 ?_); (case sx => rfl); (case sy => rfl); (case old => exact Sh.zec); (case sg => exact heap_alloc_new w10 _); (case si => kernel_rfl); (case so => rfl); (case s1 => kernel_rfl); have H11 := Lib.hid (H10.out.addRow (Sh.zec) (Sh.ecells e2 p2 cap2) 65); generalize World.setRow _ w10.heap.size (Sh.ecells e2 p2 cap2) = w11 at *; generalize w10.heap.size = be2 at *; clear H10)
        | (go_at_call 19; refine (HL2.out _ _ H11.out).mono ?_; rintro _ w12 ⟨rfl, hb⟩; have H12 := Lib.hid (H11.out.step hb); clear hb H11)
        | ((with_reducible refine wpList_store_row (o := ⟨none, _, _, _, _, _⟩) rfl 36 (.tmp 22) (.tmp 97) rfl (w12.heap.size) (Me.dcells d2) ?sx ?sy 36 ?old ?sg ?si ?so ?s1 ?_); (case sx => rfl); (case sy => rfl); (case old => exact Me.dcells Me.d0); (case sg => exact heap_alloc_new w12 _); (case si => kernel_rfl); (case so => rfl); (case s1 => kernel_rfl); have H13 := Lib.hid (H12.out.addRow (Me.dcells Me.d0) (Me.dcells d2) 36); generalize World.setRow _ w12.heap.size (Me.dcells d2) = w13 at *; generalize w12.heap.size = bl2 at *; clear H12))
      clear HDO HE2 HL2
      go_cut [116] (fun s116 wx => s116 = .bool false ∧ Own w K c n s2 noX ((bl2, .cells (Me.dcells d2) 36 (0, 0)) :: (be2, .cells (Sh.ecells e2 p2 cap2) 65 (0, 0)) :: (zs2 ++ ((bd, .cells (rcs (mm, is, did, er)) 42 (0, 0)) :: ((bl1, .cells (Me.dcells d1) 36 (0, 0)) :: (be1, .cells (Sh.ecells e1 p1 cap1) 65 (0, 0)) :: (zs1 ++ ((bx1, .cells (scells x) 40 (0, 0)) :: [(w.heap.size, .cells (cfc c) 24 (0, 0))])))))) wx)
      case first =>
        as_aux_lemma =>
        by_cases hne : line = ov
        · have q1 : (line != ov) = false := by simpa using hne
          clear hne
          go_wp2
          go_meet
          case rel => exact ⟨rfl, H13.out⟩
        · have q1 : (line != ov) = true := by simpa using hne
          obtain ⟨rfl, rfl⟩ := HOT.out hne
          have hwn : ∀ w, (binOp .neq 36 (.agg (Me.dcells d2)) (.agg (Me.dcells d2))).run Tryz.prog w = .ok (.bool false) w := fun w => by rw [Me.words_neq, eq_same]; rfl
          have he1c := H13.out.cells (k := be1) (cs := Sh.ecells e2 p1 cap1) (t := 65) (by simp)
          clear hne
          go_wp2_with (first
            | ((with_reducible refine Qu.wpList_load_guarded (o := ⟨some 103, _, _, _, _, _⟩) ?lw 65 (.tmp 20) rfl be2 ?lx 65 (Sh.ecells e2 p2 cap2) (0, 0) _ ?lg Tryz.underlying65 ?ld ?li ?_); (case lw => rfl); (case lx => rfl); (case lg => exact H13.out.box (k := be2) (o := .cells (Sh.ecells e2 p2 cap2) 65 (0, 0)) (by simp)); (case ld => rfl); (case li => kernel_rfl))
            | ((with_reducible refine Qu.wpList_mid_guarded (op := ⟨some 107, _, _, _, _, _⟩) ?lw 63 (.tmp 106) rfl be1 1 ?lx (Sh.sval e2.s p1 cap1) _ ?lc Tryz.underlying63 ?ld ?li ?_); (case lw => rfl); (case lx => rfl); (case lc => exact range_set he1c); (case ld => rfl); (case li => kernel_rfl))
            | (go_at_call 22; refine (same_yes e2 p2 p1 cap2 cap1 _ (by have := HLE.out; omega) (HZ2.out _ (fun q hq => H13.out.box (by simp [hq]))) (HZ1.out _ (fun q hq => H13.out.box (by simp [hq])))).mono ?_; rintro _ w14 ⟨rfl, hb⟩; have H14 := Lib.hid (H13.out.step hb); clear hb)
            | ((with_reducible refine Qu.wpList_load_guarded (o := ⟨some 112, _, _, _, _, _⟩) ?lw 36 (.tmp 22) rfl bl2 ?lx 36 (Me.dcells d2) (0, 0) _ ?lg Tryz.underlying36 ?ld ?li ?_); (case lw => rfl); (case lx => rfl); (case lg => exact H14.out.box (k := bl2) (o := .cells (Me.dcells d2) 36 (0, 0)) (by simp)); (case ld => rfl); (case li => kernel_rfl))
            | ((with_reducible refine Qu.wpList_load_guarded (o := ⟨some 113, _, _, _, _, _⟩) ?lw 36 (.tmp 15) rfl bl1 ?lx 36 (Me.dcells d2) (0, 0) _ ?lg Tryz.underlying36 ?ld ?li ?_); (case lw => rfl); (case lx => rfl); (case lg => exact H14.out.box (k := bl1) (o := .cells (Me.dcells d2) 36 (0, 0)) (by simp)); (case ld => rfl); (case li => kernel_rfl)))
          go_meet
          case rel => exact ⟨rfl, H14.out⟩
      case rest =>
        as_aux_lemma =>
        obtain ⟨rfl, h14⟩ := hcut
        obtain ⟨w14, rfl⟩ : ∃ w14 : World, w14 = wc := ⟨_, rfl⟩
        have H14 := Lib.hid h14
        clear h14 H13 HOT HZ1 HZ2
        go_upto_region 22 with fail
        go_cut [142] (fun s142 wx => s142 = .bool false ∧ Own w K c n s2 noX ((bl2, .cells (Me.dcells d2) 36 (0, 0)) :: (be2, .cells (Sh.ecells e2 p2 cap2) 65 (0, 0)) :: (zs2 ++ ((bd, .cells (rcs (mm, is, did, er)) 42 (0, 0)) :: ((bl1, .cells (Me.dcells d1) 36 (0, 0)) :: (be1, .cells (Sh.ecells e1 p1 cap1) 65 (0, 0)) :: (zs1 ++ ((bx1, .cells (scells x) 40 (0, 0)) :: [(w.heap.size, .cells (cfc c) 24 (0, 0))])))))) wx)
        case first =>
          as_aux_lemma =>
          rcases HSN.out with ⟨rfl, rfl⟩ | ⟨rfl, rfl, -, -⟩
          · have hz1 : ∀ w, (binOp .neq 38 (mv mz) (mv mz)).run Tryz.prog w = .ok (.bool false) w := fun w => msg_neq mz w
            refine wp_region_noPanic ?_
            refine wp_region_held_drew (S := (fun w' : World => (∀ o, w'.cell? ⟨K.h, o, none⟩ = (hcells c n K s2.od)[o]?) ∧ (∀ o, w'.cell? ⟨w.heap.size, o, none⟩ = (cfc c)[o]?) ∧ (∀ o, w'.cell? ⟨bd, o, none⟩ = (rcs (mz, false, did, er))[o]?))) (by kernel_rfl) ⟨H14.out.hc, H14.out.cells (t := 24) (by simp), H14.out.cells (t := 42) (by simp)⟩ (fun hh0 => ?_)
            replace H14 := Lib.hid H14.out.drew
            generalize World.drew w14 = w14 at *
            refine wpAnyH_take (fuel := 25) (i := 0) (oi := ⟨some 117, _, _, _, _, _⟩) (v := ptr K.h) rfl (by kernel_rfl) (by kernel_rfl) (by kernel_rfl) (fun _ _ _ h => h) (Or.inl ⟨by rfl, ?_⟩) hh0 ?_
            · intro w' _
              go_simp
            simp only [Act.put, List.setIfInBounds_toArray, List.set_cons_zero, List.set_cons_succ]
            refine wpAnyH_take (fuel := 24) (i := 3) (oi := ⟨some 120, _, _, _, _, _⟩) (v := .pointer (some ⟨w.heap.size, 8, none⟩)) rfl (by kernel_rfl) (by kernel_rfl) (by kernel_rfl) (fun _ _ _ h => h) (Or.inl ⟨by rfl, ?_⟩) hh0 ?_
            · intro w' _
              go_simp
            simp only [Act.put, List.setIfInBounds_toArray, List.set_cons_zero, List.set_cons_succ]
            refine wpAnyH_take (fuel := 23) (i := 4) (oi := ⟨some 121, _, _, _, _, _⟩) (v := .int .i64 c.bu) rfl (by kernel_rfl) (by kernel_rfl) (by kernel_rfl) (fun _ _ _ h => h) (Or.inl ⟨by rfl, ?_⟩) hh0 ?_
            · rintro w' ⟨-, c0, -⟩
              go_simp
            simp only [Act.put, List.setIfInBounds_toArray, List.set_cons_zero, List.set_cons_succ]
            refine wpAnyH_ready (fuel := 22) (rs := [1]) (by kernel_rfl) (by simp) ?_
            refine AllReadyH.cons (o := ⟨some 118, _, _, _, _, _⟩) rfl (fun P hP => ?_) AllReadyH.nil
            go_simp
            refine H14.out.queueF.mono ?_
            rintro e w16 ⟨p6, c6, M6, rfl, hM6, -, -, hb16⟩
            have H16 := Lib.hid (H14.out.step hb16)
            have hl6 : decide (c.bu < (M6.length : Int)) = false := by have h1 := H14.out.gd.q.len; have h2 : M6.length = s2.Q.length := (by rw [← hM6, List.length_map]); rw [← h2] at h1; simpa using h1
            clear hb16 hM6
            show P _ _
            refine hP.out _ _ (⟨H16.out.hc, H16.out.cells (t := 24) (by simp), H16.out.cells (t := 42) (by simp)⟩) (fun hh1 => ?_)
            clear hP P hh0
            refine wpAnyH_take (fuel := 21) (i := 2) (oi := ⟨some 119, _, _, _, _, _⟩) (v := .int .i64 (M6.length : Int)) rfl (by kernel_rfl) (by kernel_rfl) (by kernel_rfl) (fun _ _ _ h => h) (Or.inl ⟨by rfl, ?_⟩) hh1 ?_
            · intro w' _
              go_simp
            simp only [Act.put, List.setIfInBounds_toArray, List.set_cons_zero, List.set_cons_succ]
            refine wpAnyH_take (fuel := 20) (i := 5) (oi := ⟨some 122, _, _, _, _, _⟩) (v := .bool false) rfl (by kernel_rfl) (by kernel_rfl) (by kernel_rfl) (fun _ _ _ h => h) (Or.inl ⟨by rfl, ?_⟩) hh1 ?_
            · intro w' _
              go_simp
            simp only [Act.put, List.setIfInBounds_toArray, List.set_cons_zero, List.set_cons_succ]
            refine wpAnyH_take (fuel := 19) (i := 6) (oi := ⟨some 123, _, _, _, _, _⟩) (v := .bool false) rfl (by kernel_rfl) (by kernel_rfl) (by kernel_rfl) (fun _ _ _ h => h) (Or.inl ⟨by rfl, ?_⟩) hh1 ?_
            · intro w' _
              go_simp
            simp only [Act.put, List.setIfInBounds_toArray, List.set_cons_zero, List.set_cons_succ]
            refine wpAnyH_take (fuel := 18) (i := 7) (oi := ⟨some 124, _, _, _, _, _⟩) (v := .pointer (some ⟨bd, 15, none⟩)) rfl (by kernel_rfl) (by kernel_rfl) (by kernel_rfl) (fun _ _ _ h => h) (Or.inl ⟨by rfl, ?_⟩) hh1 ?_
            · intro w' _
              go_simp
            simp only [Act.put, List.setIfInBounds_toArray, List.set_cons_zero, List.set_cons_succ]
            refine wpAnyH_take (fuel := 17) (i := 8) (oi := ⟨some 125, _, _, _, _, _⟩) (v := .bool false) rfl (by kernel_rfl) (by kernel_rfl) (by kernel_rfl) (fun _ _ _ h => h) (Or.inl ⟨by rfl, ?_⟩) hh1 ?_
            · rintro w' ⟨-, -, c0⟩
              go_simp
            simp only [Act.put, List.setIfInBounds_toArray, List.set_cons_zero, List.set_cons_succ]
            refine wpAnyH_take (fuel := 16) (i := 9) (oi := ⟨some 126, _, _, _, _, _⟩) (v := .bool false) rfl (by kernel_rfl) (by kernel_rfl) (by kernel_rfl) (fun _ _ _ h => h) (Or.inl ⟨by rfl, ?_⟩) hh1 ?_
            · intro w' _
              go_simp
            simp only [Act.put, List.setIfInBounds_toArray, List.set_cons_zero, List.set_cons_succ]
            refine wpAnyH_take (fuel := 15) (i := 10) (oi := ⟨some 127, _, _, _, _, _⟩) (v := undef) rfl (by kernel_rfl) (by kernel_rfl) (by kernel_rfl) (fun _ _ _ h => h) (Or.inr ⟨by rfl, rfl⟩) hh1 ?_
            simp only [Act.put, List.setIfInBounds_toArray, List.set_cons_zero, List.set_cons_succ]
            refine wpAnyH_take (fuel := 14) (i := 11) (oi := ⟨some 128, _, _, _, _, _⟩) (v := undef) rfl (by kernel_rfl) (by kernel_rfl) (by kernel_rfl) (fun _ _ _ h => h) (Or.inr ⟨by rfl, rfl⟩) hh1 ?_
            simp only [Act.put, List.setIfInBounds_toArray, List.set_cons_zero, List.set_cons_succ]
            refine wpAnyH_take (fuel := 13) (i := 12) (oi := ⟨some 129, _, _, _, _, _⟩) (v := undef) rfl (by kernel_rfl) (by kernel_rfl) (by kernel_rfl) (fun _ _ _ h => h) (Or.inr ⟨by rfl, rfl⟩) hh1 ?_
            simp only [Act.put, List.setIfInBounds_toArray, List.set_cons_zero, List.set_cons_succ]
            refine wpAnyH_take (fuel := 12) (i := 13) (oi := ⟨some 130, _, _, _, _, _⟩) (v := .bool false) rfl (by kernel_rfl) (by kernel_rfl) (by kernel_rfl) (fun _ _ _ h => h) (Or.inl ⟨by rfl, ?_⟩) hh1 ?_
            · intro w' _
              go_simp
            simp only [Act.put, List.setIfInBounds_toArray, List.set_cons_zero, List.set_cons_succ]
            refine wpAnyH_take (fuel := 11) (i := 14) (oi := ⟨some 131, _, _, _, _, _⟩) (v := .bool false) rfl (by kernel_rfl) (by kernel_rfl) (by kernel_rfl) (fun _ _ _ h => h) (Or.inl ⟨by rfl, ?_⟩) hh1 ?_
            · intro w' _
              go_simp
            simp only [Act.put, List.setIfInBounds_toArray, List.set_cons_zero, List.set_cons_succ]
            refine wpAnyH_take (fuel := 10) (i := 15) (oi := ⟨some 132, _, _, _, _, _⟩) (v := .bool false) rfl (by kernel_rfl) (by kernel_rfl) (by kernel_rfl) (fun _ _ _ h => h) (Or.inl ⟨by rfl, ?_⟩) hh1 ?_
            · intro w' _
              go_simp
            simp only [Act.put, List.setIfInBounds_toArray, List.set_cons_zero, List.set_cons_succ]
            refine wpAnyH_take (fuel := 9) (i := 16) (oi := ⟨some 133, _, _, _, _, _⟩) (v := .pointer (some ⟨bd, 15, none⟩)) rfl (by kernel_rfl) (by kernel_rfl) (by kernel_rfl) (fun _ _ _ h => h) (Or.inl ⟨by rfl, ?_⟩) hh1 ?_
            · intro w' _
              go_simp
            simp only [Act.put, List.setIfInBounds_toArray, List.set_cons_zero, List.set_cons_succ]
            refine wpAnyH_take (fuel := 8) (i := 17) (oi := ⟨some 134, _, _, _, _, _⟩) (v := .bool false) rfl (by kernel_rfl) (by kernel_rfl) (by kernel_rfl) (fun _ _ _ h => h) (Or.inl ⟨by rfl, ?_⟩) hh1 ?_
            · rintro w' ⟨-, -, c0⟩
              go_simp
            simp only [Act.put, List.setIfInBounds_toArray, List.set_cons_zero, List.set_cons_succ]
            refine wpAnyH_take (fuel := 7) (i := 18) (oi := ⟨some 135, _, _, _, _, _⟩) (v := .bool true) rfl (by kernel_rfl) (by kernel_rfl) (by kernel_rfl) (fun _ _ _ h => h) (Or.inl ⟨by rfl, ?_⟩) hh1 ?_
            · intro w' _
              go_simp
            simp only [Act.put, List.setIfInBounds_toArray, List.set_cons_zero, List.set_cons_succ]
            refine wpAnyH_take (fuel := 6) (i := 19) (oi := ⟨some 136, _, _, _, _, _⟩) (v := .bool true) rfl (by kernel_rfl) (by kernel_rfl) (by kernel_rfl) (fun _ _ _ h => h) (Or.inl ⟨by rfl, ?_⟩) hh1 ?_
            · intro w' _
              go_simp
            simp only [Act.put, List.setIfInBounds_toArray, List.set_cons_zero, List.set_cons_succ]
            refine wpAnyH_take (fuel := 5) (i := 20) (oi := ⟨some 137, _, _, _, _, _⟩) (v := .pointer (some ⟨bd, 0, none⟩)) rfl (by kernel_rfl) (by kernel_rfl) (by kernel_rfl) (fun _ _ _ h => h) (Or.inl ⟨by rfl, ?_⟩) hh1 ?_
            · intro w' _
              go_simp
            simp only [Act.put, List.setIfInBounds_toArray, List.set_cons_zero, List.set_cons_succ]
            refine wpAnyH_take (fuel := 4) (i := 21) (oi := ⟨some 138, _, _, _, _, _⟩) (v := mv mz) rfl (by kernel_rfl) (by kernel_rfl) (by kernel_rfl) (fun _ _ _ h => h) (Or.inl ⟨by rfl, ?_⟩) hh1 ?_
            · rintro w' ⟨-, -, c0⟩
              go_simp
            simp only [Act.put, List.setIfInBounds_toArray, List.set_cons_zero, List.set_cons_succ]
            refine wpAnyH_take (fuel := 3) (i := 22) (oi := ⟨some 139, _, _, _, _, _⟩) (v := mv mz) rfl (by kernel_rfl) (by kernel_rfl) (by kernel_rfl) (fun _ _ _ h => h) (Or.inl ⟨by rfl, ?_⟩) hh1 ?_
            · intro w' _
              go_simp
            simp only [Act.put, List.setIfInBounds_toArray, List.set_cons_zero, List.set_cons_succ]
            refine wpAnyH_take (fuel := 2) (i := 23) (oi := ⟨some 140, _, _, _, _, _⟩) (v := .bool false) rfl (by kernel_rfl) (by kernel_rfl) (by kernel_rfl) (fun _ _ _ h => h) (Or.inl ⟨by rfl, ?_⟩) hh1 ?_
            · intro w' _
              go_simp
            simp only [Act.put, List.setIfInBounds_toArray, List.set_cons_zero, List.set_cons_succ]
            refine wpAnyH_take (fuel := 1) (i := 24) (oi := ⟨some 141, _, _, _, _, _⟩) (v := .bool false) rfl (by kernel_rfl) (by kernel_rfl) (by kernel_rfl) (fun _ _ _ h => h) (Or.inl ⟨by rfl, ?_⟩) hh1 ?_
            · intro w' _
              go_simp
            simp only [Act.put, List.setIfInBounds_toArray, List.set_cons_zero, List.set_cons_succ]
            refine wpAnyH_take (fuel := 0) (i := 25) (oi := ⟨some 142, _, _, _, _, _⟩) (v := .bool false) rfl (by kernel_rfl) (by kernel_rfl) (by kernel_rfl) (fun _ _ _ h => h) (Or.inl ⟨by rfl, ?_⟩) hh1 ?_
            · intro w' _
              go_simp
            simp only [Act.put, List.setIfInBounds_toArray, List.set_cons_zero, List.set_cons_succ]
            refine wpAnyH_done (by kernel_rfl) ?_ _
            refine NoPanic.normal ?_
            clear hh1
            go_wp2
            go_meet
            case rel => exact ⟨rfl, H16.out⟩
          · skip
            refine wp_region_noPanic ?_
            refine wp_region_held_drew (S := (fun w' : World => (∀ o, w'.cell? ⟨K.h, o, none⟩ = (hcells c n K s2.od)[o]?) ∧ (∀ o, w'.cell? ⟨w.heap.size, o, none⟩ = (cfc c)[o]?) ∧ (∀ o, w'.cell? ⟨bd, o, none⟩ = (rcs (mm, true, true, er))[o]?))) (by kernel_rfl) ⟨H14.out.hc, H14.out.cells (t := 24) (by simp), H14.out.cells (t := 42) (by simp)⟩ (fun hh0 => ?_)
            replace H14 := Lib.hid H14.out.drew
            generalize World.drew w14 = w14 at *
            refine wpAnyH_take (fuel := 25) (i := 0) (oi := ⟨some 117, _, _, _, _, _⟩) (v := ptr K.h) rfl (by kernel_rfl) (by kernel_rfl) (by kernel_rfl) (fun _ _ _ h => h) (Or.inl ⟨by rfl, ?_⟩) hh0 ?_
            · intro w' _
              go_simp
            simp only [Act.put, List.setIfInBounds_toArray, List.set_cons_zero, List.set_cons_succ]
            refine wpAnyH_take (fuel := 24) (i := 3) (oi := ⟨some 120, _, _, _, _, _⟩) (v := .pointer (some ⟨w.heap.size, 8, none⟩)) rfl (by kernel_rfl) (by kernel_rfl) (by kernel_rfl) (fun _ _ _ h => h) (Or.inl ⟨by rfl, ?_⟩) hh0 ?_
            · intro w' _
              go_simp
            simp only [Act.put, List.setIfInBounds_toArray, List.set_cons_zero, List.set_cons_succ]
            refine wpAnyH_take (fuel := 23) (i := 4) (oi := ⟨some 121, _, _, _, _, _⟩) (v := .int .i64 c.bu) rfl (by kernel_rfl) (by kernel_rfl) (by kernel_rfl) (fun _ _ _ h => h) (Or.inl ⟨by rfl, ?_⟩) hh0 ?_
            · rintro w' ⟨-, c0, -⟩
              go_simp
            simp only [Act.put, List.setIfInBounds_toArray, List.set_cons_zero, List.set_cons_succ]
            refine wpAnyH_ready (fuel := 22) (rs := [1]) (by kernel_rfl) (by simp) ?_
            refine AllReadyH.cons (o := ⟨some 118, _, _, _, _, _⟩) rfl (fun P hP => ?_) AllReadyH.nil
            go_simp
            refine H14.out.queueF.mono ?_
            rintro e w16 ⟨p6, c6, M6, rfl, hM6, -, -, hb16⟩
            have H16 := Lib.hid (H14.out.step hb16)
            have hl6 : decide (c.bu < (M6.length : Int)) = false := by have h1 := H14.out.gd.q.len; have h2 : M6.length = s2.Q.length := (by rw [← hM6, List.length_map]); rw [← h2] at h1; simpa using h1
            clear hb16 hM6
            show P _ _
            refine hP.out _ _ (⟨H16.out.hc, H16.out.cells (t := 24) (by simp), H16.out.cells (t := 42) (by simp)⟩) (fun hh1 => ?_)
            clear hP P hh0
            refine wpAnyH_take (fuel := 21) (i := 2) (oi := ⟨some 119, _, _, _, _, _⟩) (v := .int .i64 (M6.length : Int)) rfl (by kernel_rfl) (by kernel_rfl) (by kernel_rfl) (fun _ _ _ h => h) (Or.inl ⟨by rfl, ?_⟩) hh1 ?_
            · intro w' _
              go_simp
            simp only [Act.put, List.setIfInBounds_toArray, List.set_cons_zero, List.set_cons_succ]
            refine wpAnyH_take (fuel := 20) (i := 5) (oi := ⟨some 122, _, _, _, _, _⟩) (v := .bool false) rfl (by kernel_rfl) (by kernel_rfl) (by kernel_rfl) (fun _ _ _ h => h) (Or.inl ⟨by rfl, ?_⟩) hh1 ?_
            · intro w' _
              go_simp
            simp only [Act.put, List.setIfInBounds_toArray, List.set_cons_zero, List.set_cons_succ]
            refine wpAnyH_take (fuel := 19) (i := 6) (oi := ⟨some 123, _, _, _, _, _⟩) (v := .bool false) rfl (by kernel_rfl) (by kernel_rfl) (by kernel_rfl) (fun _ _ _ h => h) (Or.inl ⟨by rfl, ?_⟩) hh1 ?_
            · intro w' _
              go_simp
            simp only [Act.put, List.setIfInBounds_toArray, List.set_cons_zero, List.set_cons_succ]
            refine wpAnyH_take (fuel := 18) (i := 7) (oi := ⟨some 124, _, _, _, _, _⟩) (v := .pointer (some ⟨bd, 15, none⟩)) rfl (by kernel_rfl) (by kernel_rfl) (by kernel_rfl) (fun _ _ _ h => h) (Or.inl ⟨by rfl, ?_⟩) hh1 ?_
            · intro w' _
              go_simp
            simp only [Act.put, List.setIfInBounds_toArray, List.set_cons_zero, List.set_cons_succ]
            refine wpAnyH_take (fuel := 17) (i := 8) (oi := ⟨some 125, _, _, _, _, _⟩) (v := .bool true) rfl (by kernel_rfl) (by kernel_rfl) (by kernel_rfl) (fun _ _ _ h => h) (Or.inl ⟨by rfl, ?_⟩) hh1 ?_
            · rintro w' ⟨-, -, c0⟩
              go_simp
            simp only [Act.put, List.setIfInBounds_toArray, List.set_cons_zero, List.set_cons_succ]
            refine wpAnyH_take (fuel := 16) (i := 9) (oi := ⟨some 126, _, _, _, _, _⟩) (v := .bool true) rfl (by kernel_rfl) (by kernel_rfl) (by kernel_rfl) (fun _ _ _ h => h) (Or.inl ⟨by rfl, ?_⟩) hh1 ?_
            · intro w' _
              go_simp
            simp only [Act.put, List.setIfInBounds_toArray, List.set_cons_zero, List.set_cons_succ]
            refine wpAnyH_take (fuel := 15) (i := 10) (oi := ⟨some 127, _, _, _, _, _⟩) (v := .pointer (some ⟨bd, 16, none⟩)) rfl (by kernel_rfl) (by kernel_rfl) (by kernel_rfl) (fun _ _ _ h => h) (Or.inl ⟨by rfl, ?_⟩) hh1 ?_
            · intro w' _
              go_simp
            simp only [Act.put, List.setIfInBounds_toArray, List.set_cons_zero, List.set_cons_succ]
            refine wpAnyH_take (fuel := 14) (i := 11) (oi := ⟨some 128, _, _, _, _, _⟩) (v := .bool true) rfl (by kernel_rfl) (by kernel_rfl) (by kernel_rfl) (fun _ _ _ h => h) (Or.inl ⟨by rfl, ?_⟩) hh1 ?_
            · rintro w' ⟨-, -, c0⟩
              go_simp
            simp only [Act.put, List.setIfInBounds_toArray, List.set_cons_zero, List.set_cons_succ]
            refine wpAnyH_take (fuel := 13) (i := 12) (oi := ⟨some 129, _, _, _, _, _⟩) (v := .bool false) rfl (by kernel_rfl) (by kernel_rfl) (by kernel_rfl) (fun _ _ _ h => h) (Or.inl ⟨by rfl, ?_⟩) hh1 ?_
            · intro w' _
              go_simp
            simp only [Act.put, List.setIfInBounds_toArray, List.set_cons_zero, List.set_cons_succ]
            refine wpAnyH_take (fuel := 12) (i := 13) (oi := ⟨some 130, _, _, _, _, _⟩) (v := .bool false) rfl (by kernel_rfl) (by kernel_rfl) (by kernel_rfl) (fun _ _ _ h => h) (Or.inl ⟨by rfl, ?_⟩) hh1 ?_
            · intro w' _
              go_simp
            simp only [Act.put, List.setIfInBounds_toArray, List.set_cons_zero, List.set_cons_succ]
            refine wpAnyH_take (fuel := 11) (i := 14) (oi := ⟨some 131, _, _, _, _, _⟩) (v := .bool false) rfl (by kernel_rfl) (by kernel_rfl) (by kernel_rfl) (fun _ _ _ h => h) (Or.inl ⟨by rfl, ?_⟩) hh1 ?_
            · intro w' _
              go_simp
            simp only [Act.put, List.setIfInBounds_toArray, List.set_cons_zero, List.set_cons_succ]
            refine wpAnyH_take (fuel := 10) (i := 15) (oi := ⟨some 132, _, _, _, _, _⟩) (v := .bool false) rfl (by kernel_rfl) (by kernel_rfl) (by kernel_rfl) (fun _ _ _ h => h) (Or.inl ⟨by rfl, ?_⟩) hh1 ?_
            · intro w' _
              go_simp
            simp only [Act.put, List.setIfInBounds_toArray, List.set_cons_zero, List.set_cons_succ]
            refine wpAnyH_take (fuel := 9) (i := 16) (oi := ⟨some 133, _, _, _, _, _⟩) (v := .pointer (some ⟨bd, 15, none⟩)) rfl (by kernel_rfl) (by kernel_rfl) (by kernel_rfl) (fun _ _ _ h => h) (Or.inl ⟨by rfl, ?_⟩) hh1 ?_
            · intro w' _
              go_simp
            simp only [Act.put, List.setIfInBounds_toArray, List.set_cons_zero, List.set_cons_succ]
            refine wpAnyH_take (fuel := 8) (i := 17) (oi := ⟨some 134, _, _, _, _, _⟩) (v := .bool true) rfl (by kernel_rfl) (by kernel_rfl) (by kernel_rfl) (fun _ _ _ h => h) (Or.inl ⟨by rfl, ?_⟩) hh1 ?_
            · rintro w' ⟨-, -, c0⟩
              go_simp
            simp only [Act.put, List.setIfInBounds_toArray, List.set_cons_zero, List.set_cons_succ]
            refine wpAnyH_take (fuel := 7) (i := 18) (oi := ⟨some 135, _, _, _, _, _⟩) (v := .bool false) rfl (by kernel_rfl) (by kernel_rfl) (by kernel_rfl) (fun _ _ _ h => h) (Or.inl ⟨by rfl, ?_⟩) hh1 ?_
            · intro w' _
              go_simp
            simp only [Act.put, List.setIfInBounds_toArray, List.set_cons_zero, List.set_cons_succ]
            refine wpAnyH_take (fuel := 6) (i := 19) (oi := ⟨some 136, _, _, _, _, _⟩) (v := .bool false) rfl (by kernel_rfl) (by kernel_rfl) (by kernel_rfl) (fun _ _ _ h => h) (Or.inl ⟨by rfl, ?_⟩) hh1 ?_
            · intro w' _
              go_simp
            simp only [Act.put, List.setIfInBounds_toArray, List.set_cons_zero, List.set_cons_succ]
            refine wpAnyH_take (fuel := 5) (i := 20) (oi := ⟨some 137, _, _, _, _, _⟩) (v := undef) rfl (by kernel_rfl) (by kernel_rfl) (by kernel_rfl) (fun _ _ _ h => h) (Or.inr ⟨by rfl, rfl⟩) hh1 ?_
            simp only [Act.put, List.setIfInBounds_toArray, List.set_cons_zero, List.set_cons_succ]
            refine wpAnyH_take (fuel := 4) (i := 21) (oi := ⟨some 138, _, _, _, _, _⟩) (v := undef) rfl (by kernel_rfl) (by kernel_rfl) (by kernel_rfl) (fun _ _ _ h => h) (Or.inr ⟨by rfl, rfl⟩) hh1 ?_
            simp only [Act.put, List.setIfInBounds_toArray, List.set_cons_zero, List.set_cons_succ]
            refine wpAnyH_take (fuel := 3) (i := 22) (oi := ⟨some 139, _, _, _, _, _⟩) (v := undef) rfl (by kernel_rfl) (by kernel_rfl) (by kernel_rfl) (fun _ _ _ h => h) (Or.inr ⟨by rfl, rfl⟩) hh1 ?_
            simp only [Act.put, List.setIfInBounds_toArray, List.set_cons_zero, List.set_cons_succ]
            refine wpAnyH_take (fuel := 2) (i := 23) (oi := ⟨some 140, _, _, _, _, _⟩) (v := undef) rfl (by kernel_rfl) (by kernel_rfl) (by kernel_rfl) (fun _ _ _ h => h) (Or.inr ⟨by rfl, rfl⟩) hh1 ?_
            simp only [Act.put, List.setIfInBounds_toArray, List.set_cons_zero, List.set_cons_succ]
            refine wpAnyH_take (fuel := 1) (i := 24) (oi := ⟨some 141, _, _, _, _, _⟩) (v := .bool false) rfl (by kernel_rfl) (by kernel_rfl) (by kernel_rfl) (fun _ _ _ h => h) (Or.inl ⟨by rfl, ?_⟩) hh1 ?_
            · intro w' _
              go_simp
            simp only [Act.put, List.setIfInBounds_toArray, List.set_cons_zero, List.set_cons_succ]
            refine wpAnyH_take (fuel := 0) (i := 25) (oi := ⟨some 142, _, _, _, _, _⟩) (v := .bool false) rfl (by kernel_rfl) (by kernel_rfl) (by kernel_rfl) (fun _ _ _ h => h) (Or.inl ⟨by rfl, ?_⟩) hh1 ?_
            · intro w' _
              go_simp
            simp only [Act.put, List.setIfInBounds_toArray, List.set_cons_zero, List.set_cons_succ]
            refine wpAnyH_done (by kernel_rfl) ?_ _
            refine NoPanic.normal ?_
            clear hh1
            go_wp2
            go_meet
            case rel => exact ⟨rfl, H16.out⟩
        case rest =>
          as_aux_lemma =>
          obtain ⟨rfl, h15⟩ := hcut
          obtain ⟨w15, rfl⟩ : ∃ w15 : World, w15 = wc := ⟨_, rfl⟩
          have H15 := Lib.hid h15
          clear h15 H14
          have hr15 := H15.out.cells (k := bd) (cs := rcs (mm, is, did, er)) (t := 42) (by simp)
          rcases HSN.out with ⟨rfl, rfl⟩ | ⟨rfl, rfl, hsd, hlf⟩
          · go_wp2
            go_roundw
            case rel => exact ⟨k + 1, s2, by omega, by go_num, Lib.hid H15.out.drop.drop.dropAll.drop.drop.drop.dropAll.drop⟩
            case measure => simp [intOf]; omega
          · have f1 : (mm.fr != n) = false := by rw [hsd.fr]; simp
            have f2 : (mm.ln != ov) = false := by rw [hsd.ln]; simp
            have hx15 := H15.out.cells (k := bx1) (cs := scells x) (t := 40) (by simp)
            have hcs : (mm.kd == 4) = true ∧ decide (x.b < 1) = false ∨ (mm.kd == 4) = false ∧ ((mm.kd == 5) = true ∧ decide (x.b < 1) = false ∨ (mm.kd == 5) = false ∧ ((mm.kd == 6) = true ∧ decide (x.b < 1) = false ∨ (mm.kd == 6) = false ∧ decide (x.d < 1) = false)) := by
              rw [net_sd hsd] at hlf
              rcases hsd.kd with e | e | e | e | e | e <;> (rw [e] at hlf ⊢; simp [leftP] at hlf ⊢; omega)
            clear hsd hlf
            rcases hcs with ⟨g1, g2⟩ | ⟨g1, ⟨g2, g3⟩ | ⟨g2, ⟨g3, g4⟩ | ⟨g3, g4⟩⟩⟩
            all_goals
              go_wp2
              go_roundw
              case rel => exact ⟨k + 1, s2, by omega, by go_num, Lib.hid H15.out.drop.drop.dropAll.drop.drop.drop.dropAll.drop⟩
              case measure => simp [intOf]; omega

end Go.Proofs.YtpknfbgnclgpmaaGreatDoor.Ho
