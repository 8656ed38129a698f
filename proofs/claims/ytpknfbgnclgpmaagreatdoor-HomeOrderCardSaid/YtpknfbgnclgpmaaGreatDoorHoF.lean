/-
  What begin of a home does.
-/
import Derived.Test.YtpknfbgnclgpmaaGreatDoorHoE
import Derived.Deep.CutRange
namespace Go.Proofs.YtpknfbgnclgpmaaGreatDoor.Ho
open Go Go.RowKit

variable {w0 w w' wr : World} {K : Kb} {c : Cfg} {n : Int} {s : Hs} {X : Nat → Obj → Prop} {bx : Bx}
theorem Own.setRow1 {p : Nat × Obj} {k : Nat} {cs cs' : Array Value} {t : TypeId} (h : Own w0 K c n s X (p :: (k, .cells cs t (0, 0)) :: bx) wr) : Own w0 K c n s X (p :: (k, .cells cs' t (0, 0)) :: bx) (wr.setRow k cs') := ((h.perm (List.Perm.swap _ _ _)).setRow).perm (List.Perm.swap _ _ _)
theorem Own.mlt (h : Own w0 K c n s X bx wr) : K.m < wr.heap.size := by
  obtain ⟨o, P, D, g, h1, h2⟩ := h.ex
  exact Qu.lt_of_block (h2.box (show (K.m, o) ∈ hb c n K s o P ++ bx by simp))
theorem Own.mne (h : Own w0 K c n s X bx wr) {k : Nat} {o : Obj} (hm : (k, o) ∈ bx) : K.m ≠ k := by
  obtain ⟨o', P, D, g, h1, l0, v, h2, h3, h4, h5⟩ := h.ex
  have := h5.nd
  simp only [hb, List.cons_append, List.map_cons, List.nodup_cons, List.mem_cons, List.map_append, List.mem_append, not_or] at this
  exact fun e => this.2.1.2.2.2 (by rw [e]; exact List.mem_map.2 ⟨_, hm, rfl⟩)
theorem Own.dropAll {zs : Bx} (h : Own w0 K c n s X (zs ++ bx) wr) : Own w0 K c n s X bx wr := by
  induction zs with
  | nil => exact h
  | cons p zs ih => exact ih h.drop
theorem Own.front3 {zs : Bx} {a b d : Nat × Obj} (h : Own w0 K c n s X (zs ++ (a :: b :: d :: bx)) wr) : Own w0 K c n s X (a :: b :: d :: (zs ++ bx)) wr :=
  h.perm ((List.perm_append_comm_assoc zs [a, b, d] bx))
theorem Own.front4 {zs : Bx} {a b d e : Nat × Obj} (h : Own w0 K c n s X (zs ++ (a :: b :: d :: e :: bx)) wr) : Own w0 K c n s X (a :: b :: d :: e :: (zs ++ bx)) wr :=
  h.perm ((List.perm_append_comm_assoc zs [a, b, d, e] bx))
theorem Own.back4 {zs : Bx} {a b d e : Nat × Obj} (h : Own w0 K c n s X (a :: b :: d :: e :: (zs ++ bx)) wr) : Own w0 K c n s X (zs ++ (a :: b :: d :: e :: bx)) wr :=
  h.perm ((List.perm_append_comm_assoc [a, b, d, e] zs bx))
/-- What a line's entry is, wherever the map's block is as it was. -/
theorem Own.entO (h : Own w0 K c n s X bx wr) (y : Int) (hy : ownB c n y = true) (hw : (Lit.int .i64 y).wf = true) : ∃ om p cap, wr.heap[K.m]? = some om ∧ (∀ W, W.heap[K.m]? = some om → (Instr.lookup 92 (.map (some K.m)) (.int .i64 y) false).run Tryz.prog W = .ok (Sh.ev (s.E y) p cap) W) ∧ Sh.NumsIn wr p (s.E y).s.l := by
  obtain ⟨o, P, D, g, h1, h2⟩ := h.ex
  obtain ⟨p, cap, e1, e2⟩ := h1.yes y hy
  exact ⟨o, p, cap, h2.box (by simp), fun W hW => h1.mo.look hW h1.mp hw e1, e2 wr fun x hx => h2.box (by simp [hx])⟩
theorem next_isF {e : Sh.En} {m : Msg} {v : Sh.W8} {t : Sh.Tn} {err : Int} (h : Sh.nextT e m v = (t, err)) (p : Option Addr) (cap : Nat) (w : World) (hl : e.s.l.length ≤ 5000) (hn : Sh.NumsIn w p e.s.l) :
    Calls Tryz.prog 23 #[Sh.ev e p cap, mv m, .agg (Sh.wcells v)] w (Sh.GaveTF w t err) := by
  have := Sh.next_anyF e p cap m v w hl hn
  rw [h] at this
  exact this
theorem min_of {w : World} {q : Option Addr} {l : List Msg} (h : Sh.MsIn w q l) : Qu.MIn w q l := fun i x hx => by
  obtain ⟨k, e, hk, hr⟩ := h i x hx
  exact ⟨k, 0, e, hk, by rw [Nat.zero_add]; exact hr⟩
theorem ms_row {w : World} {q : Option Addr} {l : List Msg} (h : Sh.MsIn w q l) (g : Nat) (cs : Array Value) (hne : ∀ a, q = some a → a.block ≠ g) : Sh.MsIn (w.setRow g cs) q l := fun i x hx => by
  obtain ⟨k, rfl, hk, hr⟩ := h i x hx
  exact ⟨k, rfl, by simpa using hk, fun j v hv => (World.cell?_of_block (a := ⟨k, i * 15 + j, none⟩) (setRow_other w g k cs (hne _ rfl))).trans (hr j v hv)⟩
theorem range_msg {w : World} {k : Nat} {y : Qu.Ep} (h : ∀ i, w.cell? ⟨k, i, none⟩ = (Qu.ecells y)[i]?) : w.rangeAt k 0 (mcells y.m).toList := fun j u hj => by
  rw [Nat.zero_add, h j, ← Array.getElem?_toList]
  show ((mcells y.m).toList ++ [.bool y.st, .slice y.p y.l.length y.c])[j]? = some u
  rw [List.getElem?_append_left (List.getElem?_eq_some_iff.1 hj).1]
  exact hj

set_option maxRecDepth 100000 in
set_option maxHeartbeats 8000000 in
theorem Own.beginF (h : Own w0 K c n s X bx w) (i : Nat) (x : Qu.En) (hx : s.Q[i]? = some x) (hr : Qu.rdy s.Q i = true) :
    Calls Tryz.prog 61 #[ptr K.h, .int .i64 i] w fun e w' => (∃ v, e = .returned v) ∧ Own w0 K c n (beginX c s i x.m) X bx w' := by
  obtain ⟨m, xst, xl⟩ := x
  have hm := h.gd.rq _ (List.mem_of_getElem? hx)
  simp only at hm
  have hy := hm.ln
  have HW := Lib.hid (own_wf h.gd.ok hy)
  have HG := Lib.hid (h.getR i (Qu.getP_at hx))
  have hk := h.hc
  have H0 := Lib.hid h
  obtain ⟨d, dk, hd⟩ : ∃ d dk, Me.lnP c s.L m.ln = (d, dk) := ⟨_, _, rfl⟩
  have HLn := Lib.hid (fun w1 bx (h : Own w0 K c n s X bx w1) => h.line m.ln hd)
  obtain ⟨t, er, ht⟩ : ∃ t er, Sh.nextT (s.E m.ln) m (w8Of d) = (t, er) := ⟨_, _, rfl⟩
  have htp : turnP c s m = (t, er) := by unfold turnP; rw [hd]; exact ht
  have hw : ((er = 7 ∧ m.kd ≠ 3) ∧ beginX c s i m = ⟨s.E, s.L, dropQ s.Q i m, wrap64 (s.od + 1)⟩) ∨ (er = 0 ∧ (Et c t.e ∧ t.sent.length ≤ 500 ∧ ∀ x ∈ t.sent, Sd n m.ln x) ∧ beginX c s i m = ⟨upd s.E m.ln t.e, if t.wr = true then (Me.wrP c s.L m.ln (wdOf m)).2 else s.L, (Qu.startP s.Q i t.sent).2, s.od⟩) := by
    rcases next_plain (v := w8Of d) (h.gd.en _ hy) hm with ⟨e1, e2⟩ | ⟨t', e1, e2, e3, e4, e5⟩
    · rw [ht] at e1
      cases e1
      left
      refine ⟨⟨rfl, e2⟩, ?_⟩
      unfold beginX
      rw [htp, if_pos (by decide)]
    · rw [ht] at e1
      cases e1
      right
      refine ⟨rfl, ⟨e2, by omega, e5⟩, ?_⟩
      unfold beginX
      rw [htp, if_neg (by simp)]
  have HT := Lib.hid ht
  have HWY := Lib.hid hw
  have HY := Lib.hid hy
  have HX := Lib.hid hx
  have HRd := Lib.hid hr
  have HL : Hid ((s.E m.ln).s.l.length ≤ 5000) := Lib.hid (by have := may_len (h.gd.en _ hy).may; omega)
  obtain ⟨S2, hS⟩ : ∃ S2 : Hs, beginX c s i m = S2 := ⟨_, rfl⟩
  show Calls Tryz.prog 61 #[ptr K.h, .int .i64 i] w fun e w' => (∃ v, e = .returned v) ∧ Own w0 K c n (beginX c s i m) X bx w'
  rw [hS] at HWY ⊢
  clear h hx hr hm hy hd ht htp hw hS
  go_enter Tryz.func61, Tryz.ntmps61
  go_upto_region 2 with (first
    | (go_at_call 98; refine HG.out.mono ?_; rintro e w1 ⟨⟨ym, yst, yl, yp, yc⟩, rfl, hy, -, hb1⟩; replace hy := hy.symm; simp only [Qu.Ep.pl, Qu.En.mk.injEq] at hy; obtain ⟨rfl, rfl, rfl⟩ := hy; have H1 := Lib.hid (H0.out.step hb1); clear hb1 hk H0 HG)
    | ((with_reducible refine wpList_store_row (o := ⟨none, _, _, _, _, _⟩) rfl 80 (.tmp 4) (.tmp 18) rfl (w1.heap.size) (Qu.ecells ⟨m, xst, xl, yp, yc⟩) ?sx ?sy 80 ?old ?sg ?si ?so ?s1 ?_); (case sx => rfl); (case sy => rfl); (case old => exact Qu.zec); (case sg => exact heap_alloc_new w1 _); (case si => kernel_rfl); (case so => rfl); (case s1 => kernel_rfl); have H2 := Lib.hid (H1.out.addRow Qu.zec (Qu.ecells ⟨m, xst, xl, yp, yc⟩) 80); generalize World.setRow _ w1.heap.size (Qu.ecells ⟨m, xst, xl, yp, yc⟩) = w2 at *; generalize w1.heap.size = my at *; have hcy := H2.out.cells (List.mem_cons_self ..); clear H1)
    | ((with_reducible refine Qu.wpList_load_at (op := ⟨some 21, _, _, _, _, _⟩) rfl 38 (.tmp 20) rfl my 0 ?lx (mcells m) _ ?lc Tryz.underlying38 ?ld ?li ?_); (case lx => rfl); (case lc => exact range_msg hcy); (case ld => rfl); (case li => kernel_rfl))
    | ((with_reducible refine wpList_store_row (o := ⟨none, _, _, _, _, _⟩) rfl 38 (.tmp 6) (.tmp 21) rfl (w2.heap.size) (mcells m) ?sx ?sy 38 ?old ?sg ?si ?so ?s1 ?_); (case sx => rfl); (case sy => rfl); (case old => exact Qu.zmc); (case sg => exact heap_alloc_new w2 _); (case si => kernel_rfl); (case so => rfl); (case s1 => kernel_rfl); have H3 := Lib.hid (H2.out.addRow Qu.zmc (mcells m) 38); generalize World.setRow _ w2.heap.size (mcells m) = w3 at *; generalize w2.heap.size = mm at *; clear hcy H2))
  simp only [Act.put]
  go_cut [7, 8] (fun s7 s8 wx => ∃ md s8v, s7 = .pointer (some ⟨md, 0, none⟩) ∧ s8 = .int .i64 s8v ∧ Own w0 K c n s X ((md, .cells (Me.dcells d) 36) :: (mm, .cells (mcells m) 38) :: (my, .cells (Qu.ecells ⟨m, xst, xl, yp, yc⟩) 80) :: bx) wx)
  case first =>
    refine wp_region_noPanic ?_
    refine wp_region_held_drew (S := (fun w' : World => (∀ o, w'.cell? ⟨K.h, o, none⟩ = (hcells c n K s.od)[o]?) ∧ (∀ o, w'.cell? ⟨mm, o, none⟩ = (mcells m)[o]?))) (by kernel_rfl) ⟨H3.out.hc, H3.out.cells (List.mem_cons_self ..)⟩ (fun hh0 => ?_)
    replace H3 := Lib.hid H3.out.drew
    generalize World.drew w3 = w3 at *
    refine wpAnyH_take (fuel := 12) (i := 0) (oi := ⟨some 23, _, _, _, _, _⟩) (v := ptr K.h) rfl (by kernel_rfl) (by kernel_rfl) (by kernel_rfl) (fun _ _ _ h => h) (Or.inl ⟨by rfl, ?_⟩) hh0 ?_
    · intro w' _
      go_simp
    simp only [Act.put, List.setIfInBounds_toArray, List.set_cons_zero, List.set_cons_succ]
    refine wpAnyH_take (fuel := 11) (i := 1) (oi := ⟨some 24, _, _, _, _, _⟩) (v := ptr K.h) rfl (by kernel_rfl) (by kernel_rfl) (by kernel_rfl) (fun _ _ _ h => h) (Or.inl ⟨by rfl, ?_⟩) hh0 ?_
    · intro w' _
      go_simp
    simp only [Act.put, List.setIfInBounds_toArray, List.set_cons_zero, List.set_cons_succ]
    refine wpAnyH_take (fuel := 10) (i := 2) (oi := ⟨some 25, _, _, _, _, _⟩) (v := .pointer (some ⟨K.h, 15, none⟩)) rfl (by kernel_rfl) (by kernel_rfl) (by kernel_rfl) (fun _ _ _ h => h) (Or.inl ⟨by rfl, ?_⟩) hh0 ?_
    · intro w' _
      go_simp
    simp only [Act.put, List.setIfInBounds_toArray, List.set_cons_zero, List.set_cons_succ]
    refine wpAnyH_take (fuel := 9) (i := 3) (oi := ⟨some 26, _, _, _, _, _⟩) (v := .pointer (some ⟨K.b, 0, none⟩)) rfl (by kernel_rfl) (by kernel_rfl) (by kernel_rfl) (fun _ _ _ h => h) (Or.inl ⟨by rfl, ?_⟩) hh0 ?_
    · rintro w' ⟨c0, -⟩
      go_simp
    simp only [Act.put, List.setIfInBounds_toArray, List.set_cons_zero, List.set_cons_succ]
    refine wpAnyH_take (fuel := 8) (i := 4) (oi := ⟨some 27, _, _, _, _, _⟩) (v := .pointer (some ⟨mm, 1, none⟩)) rfl (by kernel_rfl) (by kernel_rfl) (by kernel_rfl) (fun _ _ _ h => h) (Or.inl ⟨by rfl, ?_⟩) hh0 ?_
    · intro w' _
      go_simp
    simp only [Act.put, List.setIfInBounds_toArray, List.set_cons_zero, List.set_cons_succ]
    refine wpAnyH_take (fuel := 7) (i := 5) (oi := ⟨some 28, _, _, _, _, _⟩) (v := .int .i64 m.ln) rfl (by kernel_rfl) (by kernel_rfl) (by kernel_rfl) (fun _ _ _ h => h) (Or.inl ⟨by rfl, ?_⟩) hh0 ?_
    · rintro w' ⟨-, c0⟩
      go_simp
    simp only [Act.put, List.setIfInBounds_toArray, List.set_cons_zero, List.set_cons_succ]
    refine wpAnyH_ready (fuel := 6) (rs := [6, 10]) (by kernel_rfl) (by simp) ?_
    refine AllReadyH.cons (o := ⟨some 29, _, _, _, _, _⟩) rfl (fun P hP => ?_) (AllReadyH.cons (o := ⟨some 7, _, _, _, _, _⟩) rfl (fun P hP => ?_) AllReadyH.nil)
    · go_simp
      refine (HLn.out _ _ H3.out).mono ?_
      rintro e w4 ⟨rfl, hb4⟩
      have H4 := Lib.hid (H3.out.step hb4)
      clear hb4
      show P _ _
      refine hP.out _ _ (⟨H4.out.hc, H4.out.cells (List.mem_cons_self ..)⟩) (fun hh1 => ?_)
      clear hP P hh0
      refine wpAnyH_take (fuel := 5) (i := 7) (oi := ⟨some 22, _, _, _, _, _⟩) (v := .tuple #[.agg (Me.dcells d), .int .i64 dk]) rfl (by kernel_rfl) (by kernel_rfl) (by kernel_rfl) (fun _ _ _ h => h) (Or.inl ⟨by rfl, ?_⟩) hh1 ?_
      · intro w' _
        go_simp
      simp only [Act.put, List.setIfInBounds_toArray, List.set_cons_zero, List.set_cons_succ]
      refine wpAnyH_take (fuel := 4) (i := 8) (oi := ⟨some 30, _, _, _, _, _⟩) (v := .agg (Me.dcells d)) rfl (by kernel_rfl) (by kernel_rfl) (by kernel_rfl) (fun _ _ _ h => h) (Or.inl ⟨by rfl, ?_⟩) hh1 ?_
      · intro w' _
        go_simp
      simp only [Act.put, List.setIfInBounds_toArray, List.set_cons_zero, List.set_cons_succ]
      refine wpAnyH_take (fuel := 3) (i := 9) (oi := ⟨some 31, _, _, _, _, _⟩) (v := .int .i64 dk) rfl (by kernel_rfl) (by kernel_rfl) (by kernel_rfl) (fun _ _ _ h => h) (Or.inl ⟨by rfl, ?_⟩) hh1 ?_
      · intro w' _
        go_simp
      simp only [Act.put, List.setIfInBounds_toArray, List.set_cons_zero, List.set_cons_succ]
      refine wpAnyH_ready (fuel := 2) (rs := [10]) (by kernel_rfl) (by simp) ?_
      refine AllReadyH.cons (o := ⟨some 7, _, _, _, _, _⟩) rfl (fun P hP => ?_) AllReadyH.nil
      go_simp
      have H4a := Lib.hid (H4.out.add (.cells (Me.dcells Me.d0) 36))
      show P _ _
      refine hP.out _ _ (⟨H4a.out.hc, H4a.out.cells (List.mem_cons_of_mem _ (List.mem_cons_self ..))⟩) (fun hh2 => ?_)
      clear hP P hh1
      try simp only [Act.put, List.setIfInBounds_toArray, List.set_cons_zero, List.set_cons_succ]
      refine wpAnyH_ready (fuel := 1) (rs := [11]) (by kernel_rfl) (by simp) ?_
      refine AllReadyH.cons (o := ⟨none, _, _, _, _, _⟩) rfl (fun P hP => ?_) AllReadyH.nil
      rw [if_pos (by rfl)]
      refine wp_store_row 36 (.tmp 7) (.tmp 30) rfl (w4.heap.size) (Me.dcells d) rfl rfl 36 ((Me.dcells Me.d0)) (H4a.out.box (List.mem_cons_self ..)) (by kernel_rfl) rfl (by kernel_rfl) ?_
      have H4as := Lib.hid (H4a.out.setRow (cs' := Me.dcells d))
      refine hP.out _ _ (⟨H4as.out.hc, H4as.out.cells (List.mem_cons_of_mem _ (List.mem_cons_self ..))⟩) (fun hh3 => ?_)
      clear hP P hh2
      simp only [Act.put]
      refine wpAnyH_take (fuel := 0) (i := 12) (oi := ⟨some 8, _, _, _, _, _⟩) (v := .int .i64 dk) rfl (by kernel_rfl) (by kernel_rfl) (by kernel_rfl) (fun _ _ _ h => h) (Or.inl ⟨by rfl, ?_⟩) hh3 ?_
      · intro w' _
        go_simp
      simp only [Act.put, List.setIfInBounds_toArray, List.set_cons_zero, List.set_cons_succ]
      refine wpAnyH_done (by kernel_rfl) ?_ _
      refine NoPanic.normal ?_
      clear hh3
      go_wp2
      go_meet
      case rel => exact ⟨_, _, rfl, rfl, H4as.out⟩
    · go_simp
      have H3a := Lib.hid (H3.out.add (.cells (Me.dcells Me.d0) 36))
      show P _ _
      refine hP.out _ _ (⟨H3a.out.hc, H3a.out.cells (List.mem_cons_of_mem _ (List.mem_cons_self ..))⟩) (fun hh1 => ?_)
      clear hP P hh0
      try simp only [Act.put, List.setIfInBounds_toArray, List.set_cons_zero, List.set_cons_succ]
      refine wpAnyH_ready (fuel := 5) (rs := [6]) (by kernel_rfl) (by simp) ?_
      refine AllReadyH.cons (o := ⟨some 29, _, _, _, _, _⟩) rfl (fun P hP => ?_) AllReadyH.nil
      go_simp
      refine (HLn.out _ _ H3a.out).mono ?_
      rintro e w4 ⟨rfl, hb4⟩
      have H4 := Lib.hid (H3a.out.step hb4)
      clear hb4
      show P _ _
      refine hP.out _ _ (⟨H4.out.hc, H4.out.cells (List.mem_cons_of_mem _ (List.mem_cons_self ..))⟩) (fun hh2 => ?_)
      clear hP P hh1
      refine wpAnyH_take (fuel := 4) (i := 7) (oi := ⟨some 22, _, _, _, _, _⟩) (v := .tuple #[.agg (Me.dcells d), .int .i64 dk]) rfl (by kernel_rfl) (by kernel_rfl) (by kernel_rfl) (fun _ _ _ h => h) (Or.inl ⟨by rfl, ?_⟩) hh2 ?_
      · intro w' _
        go_simp
      simp only [Act.put, List.setIfInBounds_toArray, List.set_cons_zero, List.set_cons_succ]
      refine wpAnyH_take (fuel := 3) (i := 8) (oi := ⟨some 30, _, _, _, _, _⟩) (v := .agg (Me.dcells d)) rfl (by kernel_rfl) (by kernel_rfl) (by kernel_rfl) (fun _ _ _ h => h) (Or.inl ⟨by rfl, ?_⟩) hh2 ?_
      · intro w' _
        go_simp
      simp only [Act.put, List.setIfInBounds_toArray, List.set_cons_zero, List.set_cons_succ]
      refine wpAnyH_take (fuel := 2) (i := 9) (oi := ⟨some 31, _, _, _, _, _⟩) (v := .int .i64 dk) rfl (by kernel_rfl) (by kernel_rfl) (by kernel_rfl) (fun _ _ _ h => h) (Or.inl ⟨by rfl, ?_⟩) hh2 ?_
      · intro w' _
        go_simp
      simp only [Act.put, List.setIfInBounds_toArray, List.set_cons_zero, List.set_cons_succ]
      refine wpAnyH_ready (fuel := 1) (rs := [11]) (by kernel_rfl) (by simp) ?_
      refine AllReadyH.cons (o := ⟨none, _, _, _, _, _⟩) rfl (fun P hP => ?_) AllReadyH.nil
      rw [if_pos (by rfl)]
      refine wp_store_row 36 (.tmp 7) (.tmp 30) rfl (w3.heap.size) (Me.dcells d) rfl rfl 36 ((Me.dcells Me.d0)) (H4.out.box (List.mem_cons_self ..)) (by kernel_rfl) rfl (by kernel_rfl) ?_
      have H4s := Lib.hid (H4.out.setRow (cs' := Me.dcells d))
      refine hP.out _ _ (⟨H4s.out.hc, H4s.out.cells (List.mem_cons_of_mem _ (List.mem_cons_self ..))⟩) (fun hh3 => ?_)
      clear hP P hh2
      simp only [Act.put]
      refine wpAnyH_take (fuel := 0) (i := 12) (oi := ⟨some 8, _, _, _, _, _⟩) (v := .int .i64 dk) rfl (by kernel_rfl) (by kernel_rfl) (by kernel_rfl) (fun _ _ _ h => h) (Or.inl ⟨by rfl, ?_⟩) hh3 ?_
      · intro w' _
        go_simp
      simp only [Act.put, List.setIfInBounds_toArray, List.set_cons_zero, List.set_cons_succ]
      refine wpAnyH_done (by kernel_rfl) ?_ _
      refine NoPanic.normal ?_
      clear hh3
      go_wp2
      go_meet
      case rel => exact ⟨_, _, rfl, rfl, H4s.out⟩
  case rest =>
    obtain ⟨md, s8v, rfl, rfl, h5⟩ := hcut
    obtain ⟨w5, rfl⟩ : ∃ w5 : World, w5 = wc := ⟨_, rfl⟩
    obtain ⟨om, p, cap, hom, hlk, hn⟩ := h5.drew.entO m.ln HY.out HW.out
    have H5 := Lib.hid h5
    have KMH5 := Lib.hid hom
    have HLK := Lib.hid hlk
    have HN := Lib.hid hn
    clear h5 hom hlk hn H3 HLn
    go_upto_region 3 with fail
    go_cut [9, 10] (fun s9 s10 wx => ∃ mt p6 cap6 q6 qc6 zs, s9 = .pointer (some ⟨mt, 0, none⟩) ∧ s10 = .int .i64 er ∧ NumsAt zs p6 t.e.s.l ∧ Sh.MsIn wx q6 t.sent ∧ Own w0 K c n s X ((mt, .cells (Sh.tcells t p6 cap6 (.slice q6 t.sent.length qc6)) 82) :: (md, .cells (Me.dcells d) 36) :: (mm, .cells (mcells m) 38) :: (my, .cells (Qu.ecells ⟨m, xst, xl, yp, yc⟩) 80) :: (zs ++ bx)) wx)
    case first =>
      refine wp_region_noPanic ?_
      refine wp_region_held_drew (S := (fun w' : World => (∀ o, w'.cell? ⟨K.h, o, none⟩ = (hcells c n K s.od)[o]?) ∧ (∀ o, w'.cell? ⟨md, o, none⟩ = (Me.dcells d)[o]?) ∧ (∀ o, w'.cell? ⟨mm, o, none⟩ = (mcells m)[o]?) ∧ w'.heap[K.m]? = some om)) (by kernel_rfl) ⟨H5.out.hc, H5.out.cells (List.mem_cons_self ..), H5.out.cells (List.mem_cons_of_mem _ (List.mem_cons_self ..)), KMH5.out⟩ (fun hh0 => ?_)
      replace H5 := Lib.hid H5.out.drew
      generalize World.drew w5 = w5 at *
      refine wpAnyH_take (fuel := 15) (i := 0) (oi := ⟨some 33, _, _, _, _, _⟩) (v := ptr K.h) rfl (by kernel_rfl) (by kernel_rfl) (by kernel_rfl) (fun _ _ _ h => h) (Or.inl ⟨by rfl, ?_⟩) hh0 ?_
      · intro w' _
        go_simp
      simp only [Act.put, List.setIfInBounds_toArray, List.set_cons_zero, List.set_cons_succ]
      refine wpAnyH_take (fuel := 14) (i := 1) (oi := ⟨some 34, _, _, _, _, _⟩) (v := ptr K.h) rfl (by kernel_rfl) (by kernel_rfl) (by kernel_rfl) (fun _ _ _ h => h) (Or.inl ⟨by rfl, ?_⟩) hh0 ?_
      · intro w' _
        go_simp
      simp only [Act.put, List.setIfInBounds_toArray, List.set_cons_zero, List.set_cons_succ]
      refine wpAnyH_take (fuel := 13) (i := 2) (oi := ⟨some 35, _, _, _, _, _⟩) (v := .pointer (some ⟨K.h, 14, none⟩)) rfl (by kernel_rfl) (by kernel_rfl) (by kernel_rfl) (fun _ _ _ h => h) (Or.inl ⟨by rfl, ?_⟩) hh0 ?_
      · intro w' _
        go_simp
      simp only [Act.put, List.setIfInBounds_toArray, List.set_cons_zero, List.set_cons_succ]
      refine wpAnyH_take (fuel := 12) (i := 3) (oi := ⟨some 36, _, _, _, _, _⟩) (v := .map (some K.m)) rfl (by kernel_rfl) (by kernel_rfl) (by kernel_rfl) (fun _ _ _ h => h) (Or.inl ⟨by rfl, ?_⟩) hh0 ?_
      · rintro w' ⟨c0, -, -, -⟩
        go_simp
      simp only [Act.put, List.setIfInBounds_toArray, List.set_cons_zero, List.set_cons_succ]
      refine wpAnyH_take (fuel := 11) (i := 4) (oi := ⟨some 37, _, _, _, _, _⟩) (v := .pointer (some ⟨mm, 1, none⟩)) rfl (by kernel_rfl) (by kernel_rfl) (by kernel_rfl) (fun _ _ _ h => h) (Or.inl ⟨by rfl, ?_⟩) hh0 ?_
      · intro w' _
        go_simp
      simp only [Act.put, List.setIfInBounds_toArray, List.set_cons_zero, List.set_cons_succ]
      refine wpAnyH_take (fuel := 10) (i := 5) (oi := ⟨some 38, _, _, _, _, _⟩) (v := .int .i64 m.ln) rfl (by kernel_rfl) (by kernel_rfl) (by kernel_rfl) (fun _ _ _ h => h) (Or.inl ⟨by rfl, ?_⟩) hh0 ?_
      · rintro w' ⟨-, -, c0, -⟩
        go_simp
      simp only [Act.put, List.setIfInBounds_toArray, List.set_cons_zero, List.set_cons_succ]
      refine wpAnyH_take (fuel := 9) (i := 6) (oi := ⟨some 39, _, _, _, _, _⟩) (v := Sh.ev (s.E m.ln) p cap) rfl (by kernel_rfl) (by kernel_rfl) (by kernel_rfl) (fun _ _ _ h => h) (Or.inl ⟨by rfl, ?_⟩) hh0 ?_
      · rintro w' ⟨-, -, -, c0⟩
        have q0 := HLK.out _ c0
        go_simp
      simp only [Act.put, List.setIfInBounds_toArray, List.set_cons_zero, List.set_cons_succ]
      refine wpAnyH_take (fuel := 8) (i := 7) (oi := ⟨some 40, _, _, _, _, _⟩) (v := mv m) rfl (by kernel_rfl) (by kernel_rfl) (by kernel_rfl) (fun _ _ _ h => h) (Or.inl ⟨by rfl, ?_⟩) hh0 ?_
      · rintro w' ⟨-, -, c0, -⟩
        go_simp
      simp only [Act.put, List.setIfInBounds_toArray, List.set_cons_zero, List.set_cons_succ]
      refine wpAnyH_take (fuel := 7) (i := 8) (oi := ⟨some 41, _, _, _, _, _⟩) (v := .agg (Me.dcells d)) rfl (by kernel_rfl) (by kernel_rfl) (by kernel_rfl) (fun _ _ _ h => h) (Or.inl ⟨by rfl, ?_⟩) hh0 ?_
      · rintro w' ⟨-, c0, -, -⟩
        go_simp
      simp only [Act.put, List.setIfInBounds_toArray, List.set_cons_zero, List.set_cons_succ]
      refine wpAnyH_ready (fuel := 6) (rs := [9, 13]) (by kernel_rfl) (by simp) ?_
      refine AllReadyH.cons (o := ⟨some 42, _, _, _, _, _⟩) rfl (fun P hP => ?_) (AllReadyH.cons (o := ⟨some 9, _, _, _, _, _⟩) rfl (fun P hP => ?_) AllReadyH.nil)
      · go_simp
        refine (next_isF HT.out p cap _ HL.out (by first | exact HN.out | exact HN.out.step (Qu.balloc _ _))).mono ?_
        rintro e w6 ⟨p6, cap6, q6, qc6, rfl, hn6, hm6, hb6, hf6, hq6⟩
        have KMH6 := Lib.hid ((hb6.block _ H5.out.mlt).trans KMH5.out)
        obtain ⟨zs, ho6, hz6⟩ := H5.out.gains hb6 hn6 hf6
        have H6 := Lib.hid ho6.front3
        have HZ6 := Lib.hid hz6
        have HM6 := Lib.hid hm6
        have HQ6 := Lib.hid hq6
        clear hn6 hm6 hb6 hf6 hq6 ho6 hz6
        show P _ _
        refine hP.out _ _ (⟨H6.out.hc, H6.out.cells (List.mem_cons_self ..), H6.out.cells (List.mem_cons_of_mem _ (List.mem_cons_self ..)), KMH6.out⟩) (fun hh1 => ?_)
        clear hP P hh0
        refine wpAnyH_take (fuel := 5) (i := 10) (oi := ⟨some 32, _, _, _, _, _⟩) (v := .tuple #[.agg (Sh.tcells t p6 cap6 (.slice q6 t.sent.length qc6)), .int .i64 er]) rfl (by kernel_rfl) (by kernel_rfl) (by kernel_rfl) (fun _ _ _ h => h) (Or.inl ⟨by rfl, ?_⟩) hh1 ?_
        · intro w' _
          go_simp
        simp only [Act.put, List.setIfInBounds_toArray, List.set_cons_zero, List.set_cons_succ]
        refine wpAnyH_take (fuel := 4) (i := 11) (oi := ⟨some 43, _, _, _, _, _⟩) (v := .agg (Sh.tcells t p6 cap6 (.slice q6 t.sent.length qc6))) rfl (by kernel_rfl) (by kernel_rfl) (by kernel_rfl) (fun _ _ _ h => h) (Or.inl ⟨by rfl, ?_⟩) hh1 ?_
        · intro w' _
          go_simp
        simp only [Act.put, List.setIfInBounds_toArray, List.set_cons_zero, List.set_cons_succ]
        refine wpAnyH_take (fuel := 3) (i := 12) (oi := ⟨some 44, _, _, _, _, _⟩) (v := .int .i64 er) rfl (by kernel_rfl) (by kernel_rfl) (by kernel_rfl) (fun _ _ _ h => h) (Or.inl ⟨by rfl, ?_⟩) hh1 ?_
        · intro w' _
          go_simp
        simp only [Act.put, List.setIfInBounds_toArray, List.set_cons_zero, List.set_cons_succ]
        refine wpAnyH_ready (fuel := 2) (rs := [13]) (by kernel_rfl) (by simp) ?_
        refine AllReadyH.cons (o := ⟨some 9, _, _, _, _, _⟩) rfl (fun P hP => ?_) AllReadyH.nil
        go_simp
        have H6a := Lib.hid (H6.out.add (.cells Sh.ztc 82))
        have KMH6a := Lib.hid (((Qu.balloc w6 (.cells Sh.ztc 82)).block _ H6.out.mlt).trans KMH6.out)
        show P _ _
        refine hP.out _ _ (⟨H6a.out.hc, H6a.out.cells (List.mem_cons_of_mem _ (List.mem_cons_self ..)), H6a.out.cells (List.mem_cons_of_mem _ (List.mem_cons_of_mem _ (List.mem_cons_self ..))), KMH6a.out⟩) (fun hh2 => ?_)
        clear hP P hh1
        try simp only [Act.put, List.setIfInBounds_toArray, List.set_cons_zero, List.set_cons_succ]
        refine wpAnyH_ready (fuel := 1) (rs := [14]) (by kernel_rfl) (by simp) ?_
        refine AllReadyH.cons (o := ⟨none, _, _, _, _, _⟩) rfl (fun P hP => ?_) AllReadyH.nil
        rw [if_pos (by rfl)]
        refine wp_store_row 82 (.tmp 9) (.tmp 43) rfl (w6.heap.size) (Sh.tcells t p6 cap6 (.slice q6 t.sent.length qc6)) rfl rfl 82 (Sh.ztc) (H6a.out.box (List.mem_cons_self ..)) (by kernel_rfl) rfl (by kernel_rfl) ?_
        have H6as := Lib.hid (H6a.out.setRow (cs' := Sh.tcells t p6 cap6 (.slice q6 t.sent.length qc6)))
        have KMH6as := Lib.hid ((setRow_other _ _ _ (Sh.tcells t p6 cap6 (.slice q6 t.sent.length qc6)) (H6a.out.mne (List.mem_cons_self ..))).trans KMH6a.out)
        refine hP.out _ _ (⟨H6as.out.hc, H6as.out.cells (List.mem_cons_of_mem _ (List.mem_cons_self ..)), H6as.out.cells (List.mem_cons_of_mem _ (List.mem_cons_of_mem _ (List.mem_cons_self ..))), KMH6as.out⟩) (fun hh3 => ?_)
        clear hP P hh2
        simp only [Act.put]
        refine wpAnyH_take (fuel := 0) (i := 15) (oi := ⟨some 10, _, _, _, _, _⟩) (v := .int .i64 er) rfl (by kernel_rfl) (by kernel_rfl) (by kernel_rfl) (fun _ _ _ h => h) (Or.inl ⟨by rfl, ?_⟩) hh3 ?_
        · intro w' _
          go_simp
        simp only [Act.put, List.setIfInBounds_toArray, List.set_cons_zero, List.set_cons_succ]
        refine wpAnyH_done (by kernel_rfl) ?_ _
        refine NoPanic.normal ?_
        clear hh3
        have HE := Lib.hid (HM6.out.step (Qu.below_box w6 (.cells Sh.ztc 82) (Sh.tcells t p6 cap6 (.slice q6 t.sent.length qc6))))
        go_wp2
        go_meet
        case rel => exact ⟨_, p6, cap6, q6, qc6, zs, rfl, rfl, HZ6.out, HE.out, H6as.out⟩
      · go_simp
        have H5a := Lib.hid (H5.out.add (.cells Sh.ztc 82))
        have KMH5a := Lib.hid (((Qu.balloc w5 (.cells Sh.ztc 82)).block _ H5.out.mlt).trans KMH5.out)
        show P _ _
        refine hP.out _ _ (⟨H5a.out.hc, H5a.out.cells (List.mem_cons_of_mem _ (List.mem_cons_self ..)), H5a.out.cells (List.mem_cons_of_mem _ (List.mem_cons_of_mem _ (List.mem_cons_self ..))), KMH5a.out⟩) (fun hh1 => ?_)
        clear hP P hh0
        try simp only [Act.put, List.setIfInBounds_toArray, List.set_cons_zero, List.set_cons_succ]
        refine wpAnyH_ready (fuel := 5) (rs := [9]) (by kernel_rfl) (by simp) ?_
        refine AllReadyH.cons (o := ⟨some 42, _, _, _, _, _⟩) rfl (fun P hP => ?_) AllReadyH.nil
        go_simp
        refine (next_isF HT.out p cap _ HL.out (by first | exact HN.out | exact HN.out.step (Qu.balloc _ _))).mono ?_
        rintro e w6 ⟨p6, cap6, q6, qc6, rfl, hn6, hm6, hb6, hf6, hq6⟩
        have KMH6 := Lib.hid ((hb6.block _ H5a.out.mlt).trans KMH5a.out)
        obtain ⟨zs, ho6, hz6⟩ := H5a.out.gains hb6 hn6 hf6
        have H6 := Lib.hid ho6.front4
        have HZ6 := Lib.hid hz6
        have HM6 := Lib.hid hm6
        have HQ6 := Lib.hid hq6
        clear hn6 hm6 hb6 hf6 hq6 ho6 hz6
        show P _ _
        refine hP.out _ _ (⟨H6.out.hc, H6.out.cells (List.mem_cons_of_mem _ (List.mem_cons_self ..)), H6.out.cells (List.mem_cons_of_mem _ (List.mem_cons_of_mem _ (List.mem_cons_self ..))), KMH6.out⟩) (fun hh2 => ?_)
        clear hP P hh1
        refine wpAnyH_take (fuel := 4) (i := 10) (oi := ⟨some 32, _, _, _, _, _⟩) (v := .tuple #[.agg (Sh.tcells t p6 cap6 (.slice q6 t.sent.length qc6)), .int .i64 er]) rfl (by kernel_rfl) (by kernel_rfl) (by kernel_rfl) (fun _ _ _ h => h) (Or.inl ⟨by rfl, ?_⟩) hh2 ?_
        · intro w' _
          go_simp
        simp only [Act.put, List.setIfInBounds_toArray, List.set_cons_zero, List.set_cons_succ]
        refine wpAnyH_take (fuel := 3) (i := 11) (oi := ⟨some 43, _, _, _, _, _⟩) (v := .agg (Sh.tcells t p6 cap6 (.slice q6 t.sent.length qc6))) rfl (by kernel_rfl) (by kernel_rfl) (by kernel_rfl) (fun _ _ _ h => h) (Or.inl ⟨by rfl, ?_⟩) hh2 ?_
        · intro w' _
          go_simp
        simp only [Act.put, List.setIfInBounds_toArray, List.set_cons_zero, List.set_cons_succ]
        refine wpAnyH_take (fuel := 2) (i := 12) (oi := ⟨some 44, _, _, _, _, _⟩) (v := .int .i64 er) rfl (by kernel_rfl) (by kernel_rfl) (by kernel_rfl) (fun _ _ _ h => h) (Or.inl ⟨by rfl, ?_⟩) hh2 ?_
        · intro w' _
          go_simp
        simp only [Act.put, List.setIfInBounds_toArray, List.set_cons_zero, List.set_cons_succ]
        refine wpAnyH_ready (fuel := 1) (rs := [14]) (by kernel_rfl) (by simp) ?_
        refine AllReadyH.cons (o := ⟨none, _, _, _, _, _⟩) rfl (fun P hP => ?_) AllReadyH.nil
        rw [if_pos (by rfl)]
        refine wp_store_row 82 (.tmp 9) (.tmp 43) rfl (w5.heap.size) (Sh.tcells t p6 cap6 (.slice q6 t.sent.length qc6)) rfl rfl 82 (Sh.ztc) (H6.out.box (List.mem_cons_self ..)) (by kernel_rfl) rfl (by kernel_rfl) ?_
        have H6s := Lib.hid (H6.out.setRow (cs' := Sh.tcells t p6 cap6 (.slice q6 t.sent.length qc6)))
        have KMH6s := Lib.hid ((setRow_other _ _ _ (Sh.tcells t p6 cap6 (.slice q6 t.sent.length qc6)) (H6.out.mne (List.mem_cons_self ..))).trans KMH6.out)
        refine hP.out _ _ (⟨H6s.out.hc, H6s.out.cells (List.mem_cons_of_mem _ (List.mem_cons_self ..)), H6s.out.cells (List.mem_cons_of_mem _ (List.mem_cons_of_mem _ (List.mem_cons_self ..))), KMH6s.out⟩) (fun hh3 => ?_)
        clear hP P hh2
        simp only [Act.put]
        refine wpAnyH_take (fuel := 0) (i := 15) (oi := ⟨some 10, _, _, _, _, _⟩) (v := .int .i64 er) rfl (by kernel_rfl) (by kernel_rfl) (by kernel_rfl) (fun _ _ _ h => h) (Or.inl ⟨by rfl, ?_⟩) hh3 ?_
        · intro w' _
          go_simp
        simp only [Act.put, List.setIfInBounds_toArray, List.set_cons_zero, List.set_cons_succ]
        refine wpAnyH_done (by kernel_rfl) ?_ _
        refine NoPanic.normal ?_
        clear hh3
        have HE := Lib.hid (ms_row HM6.out w5.heap.size (Sh.tcells t p6 cap6 (.slice q6 t.sent.length qc6)) (fun a ha => by have := HQ6.out a ha; simp at this; omega))
        go_wp2
        go_meet
        case rel => exact ⟨_, p6, cap6, q6, qc6, zs, rfl, rfl, HZ6.out, HE.out, H6s.out⟩
    case rest =>
      obtain ⟨mt, p6, cap6, q6, qc6, zs, rfl, rfl, hz, hm7, h7⟩ := hcut
      obtain ⟨w7, rfl⟩ : ∃ w7 : World, w7 = wc := ⟨_, rfl⟩
      have H7 := Lib.hid h7
      have HZ := Lib.hid hz
      have HM7 : Hid (Sh.MsIn w7.drew q6 t.sent) := Lib.hid (hm7.step (Below.refl _ _).drew)
      clear h7 hz hm7 H5 KMH5 HLK HN
      rcases HWY.out with ⟨⟨rfl, hk3⟩, hS⟩ | ⟨rfl, ⟨ge, gl, gs⟩, hS⟩
      · have HK3 := Lib.hid hk3
        have HS2 := Lib.hid hS
        clear hk3 hS HWY
        have hcm := H7.out.cells (List.mem_cons_of_mem _ (List.mem_cons_of_mem _ (List.mem_cons_self ..)))
        go_wp2_with (first
          | ((with_reducible refine wpList_load_row (o := ⟨some 49, _, _, _, _, _⟩) rfl 38 (.tmp 6) rfl (mm) ?lx 38 (mcells m) (0, 0) _ ?lg Tryz.underlying38 ?ld ?li ?_); (case lx => rfl); (case lg => exact H7.out.box (List.mem_cons_of_mem _ (List.mem_cons_of_mem _ (List.mem_cons_self ..)))); (case ld => rfl); (case li => kernel_rfl))
          | (go_at_call 99; refine (H7.out.dropF i ⟨m, xst, xl⟩ HX.out HRd.out HK3.out).mono ?_; rintro e w8 ⟨⟨u, rfl⟩, h8⟩; have H8 := Lib.hid h8; clear h8))
        go_wp2
        (try simp only [Exit.inBlock, Exit.then])
        refine bodyPost_ret (results_none rfl _ _ _) rfl ?_
        rw [HS2.out]
        exact ⟨⟨_, rfl⟩, H8.out.drop.drop.drop.drop.dropAll⟩
      have HGE := Lib.hid ge
      have HS : Hid (t.sent.length ≤ 500 ∧ ∀ x ∈ t.sent, Sd n m.ln x) := Lib.hid ⟨gl, gs⟩
      have HS2 := Lib.hid hS
      clear ge gl gs hS HWY
      go_upto_region 6 with fail
      refine wp_region_noPanic ?_
      refine wp_region_held_drew (S := (fun w' : World => (∀ o, w'.cell? ⟨K.h, o, none⟩ = (hcells c n K s.od)[o]?) ∧ (∀ o, w'.cell? ⟨mt, o, none⟩ = (Sh.tcells t p6 cap6 (.slice q6 t.sent.length qc6))[o]?))) (by kernel_rfl) ⟨H7.out.hc, H7.out.cells (List.mem_cons_self ..)⟩ (fun hh0 => ?_)
      replace H7 := Lib.hid H7.out.drew
      generalize World.drew w7 = w7 at *
      refine wpAnyH_take (fuel := 7) (i := 0) (oi := ⟨some 51, _, _, _, _, _⟩) (v := ptr K.h) rfl (by kernel_rfl) (by kernel_rfl) (by kernel_rfl) (fun _ _ _ h => h) (Or.inl ⟨by rfl, ?_⟩) hh0 ?_
      · intro w' _
        go_simp
      simp only [Act.put, List.setIfInBounds_toArray, List.set_cons_zero, List.set_cons_succ]
      refine wpAnyH_take (fuel := 6) (i := 1) (oi := ⟨some 52, _, _, _, _, _⟩) (v := ptr K.h) rfl (by kernel_rfl) (by kernel_rfl) (by kernel_rfl) (fun _ _ _ h => h) (Or.inl ⟨by rfl, ?_⟩) hh0 ?_
      · intro w' _
        go_simp
      simp only [Act.put, List.setIfInBounds_toArray, List.set_cons_zero, List.set_cons_succ]
      refine wpAnyH_take (fuel := 5) (i := 2) (oi := ⟨some 53, _, _, _, _, _⟩) (v := .pointer (some ⟨K.h, 16, none⟩)) rfl (by kernel_rfl) (by kernel_rfl) (by kernel_rfl) (fun _ _ _ h => h) (Or.inl ⟨by rfl, ?_⟩) hh0 ?_
      · intro w' _
        go_simp
      simp only [Act.put, List.setIfInBounds_toArray, List.set_cons_zero, List.set_cons_succ]
      refine wpAnyH_take (fuel := 4) (i := 3) (oi := ⟨some 54, _, _, _, _, _⟩) (v := .pointer (some ⟨K.q, 0, none⟩)) rfl (by kernel_rfl) (by kernel_rfl) (by kernel_rfl) (fun _ _ _ h => h) (Or.inl ⟨by rfl, ?_⟩) hh0 ?_
      · rintro w' ⟨c0, -⟩
        go_simp
      simp only [Act.put, List.setIfInBounds_toArray, List.set_cons_zero, List.set_cons_succ]
      refine wpAnyH_take (fuel := 3) (i := 4) (oi := ⟨some 55, _, _, _, _, _⟩) (v := .int .i64 i) rfl (by kernel_rfl) (by kernel_rfl) (by kernel_rfl) (fun _ _ _ h => h) (Or.inl ⟨by rfl, ?_⟩) hh0 ?_
      · intro w' _
        go_simp
      simp only [Act.put, List.setIfInBounds_toArray, List.set_cons_zero, List.set_cons_succ]
      refine wpAnyH_take (fuel := 2) (i := 5) (oi := ⟨some 56, _, _, _, _, _⟩) (v := .pointer (some ⟨mt, 5, none⟩)) rfl (by kernel_rfl) (by kernel_rfl) (by kernel_rfl) (fun _ _ _ h => h) (Or.inl ⟨by rfl, ?_⟩) hh0 ?_
      · intro w' _
        go_simp
      simp only [Act.put, List.setIfInBounds_toArray, List.set_cons_zero, List.set_cons_succ]
      refine wpAnyH_take (fuel := 1) (i := 6) (oi := ⟨some 57, _, _, _, _, _⟩) (v := .slice q6 t.sent.length qc6) rfl (by kernel_rfl) (by kernel_rfl) (by kernel_rfl) (fun _ _ _ h => h) (Or.inl ⟨by rfl, ?_⟩) hh0 ?_
      · rintro w' ⟨-, c0⟩
        go_simp
      simp only [Act.put, List.setIfInBounds_toArray, List.set_cons_zero, List.set_cons_succ]
      refine wpAnyH_ready (fuel := 0) (rs := [7]) (by kernel_rfl) (by simp) ?_
      refine AllReadyH.cons (o := ⟨some 58, _, _, _, _, _⟩) rfl (fun P hP => ?_) AllReadyH.nil
      go_simp
      refine (H7.out.startR i ⟨m, xst, xl⟩ HX.out q6 qc6 t.sent (min_of HM7.out) HS.out.1 HS.out.2).mono ?_
      rintro e w8 ⟨rfl, h8⟩
      have H8 := Lib.hid h8
      clear h8
      show P _ _
      refine hP.out _ _ (⟨H8.out.hc, H8.out.cells (List.mem_cons_self ..)⟩) (fun hh1 => ?_)
      clear hP P hh0
      refine wpAnyH_done (by kernel_rfl) ?_ _
      refine NoPanic.normal ?_
      clear hh1
      clear H7
      go_upto_region 7 with fail
      obtain ⟨w9, hup, h9⟩ := H8.out.drew.back4.entered HY.out t.e HGE.out p6 cap6 HZ.out
      refine wp_region_noPanic ?_
      refine wp_region_held_drew (S := (fun w' : World => (∀ o, w'.cell? ⟨K.h, o, none⟩ = (hcells c n K s.od)[o]?) ∧ (∀ o, w'.cell? ⟨mm, o, none⟩ = (mcells m)[o]?) ∧ (∀ o, w'.cell? ⟨mt, o, none⟩ = (Sh.tcells t p6 cap6 (.slice q6 t.sent.length qc6))[o]?))) (by kernel_rfl) ⟨H8.out.hc, H8.out.cells (List.mem_cons_of_mem _ (List.mem_cons_of_mem _ (List.mem_cons_self ..))), H8.out.cells (List.mem_cons_self ..)⟩ (fun hh0 => ?_)
      replace H8 := Lib.hid H8.out.drew
      generalize World.drew w8 = w8 at *
      refine wpAnyH_take (fuel := 8) (i := 0) (oi := ⟨some 59, _, _, _, _, _⟩) (v := ptr K.h) rfl (by kernel_rfl) (by kernel_rfl) (by kernel_rfl) (fun _ _ _ h => h) (Or.inl ⟨by rfl, ?_⟩) hh0 ?_
      · intro w' _
        go_simp
      simp only [Act.put, List.setIfInBounds_toArray, List.set_cons_zero, List.set_cons_succ]
      refine wpAnyH_take (fuel := 7) (i := 1) (oi := ⟨some 60, _, _, _, _, _⟩) (v := ptr K.h) rfl (by kernel_rfl) (by kernel_rfl) (by kernel_rfl) (fun _ _ _ h => h) (Or.inl ⟨by rfl, ?_⟩) hh0 ?_
      · intro w' _
        go_simp
      simp only [Act.put, List.setIfInBounds_toArray, List.set_cons_zero, List.set_cons_succ]
      refine wpAnyH_take (fuel := 6) (i := 2) (oi := ⟨some 61, _, _, _, _, _⟩) (v := .pointer (some ⟨K.h, 14, none⟩)) rfl (by kernel_rfl) (by kernel_rfl) (by kernel_rfl) (fun _ _ _ h => h) (Or.inl ⟨by rfl, ?_⟩) hh0 ?_
      · intro w' _
        go_simp
      simp only [Act.put, List.setIfInBounds_toArray, List.set_cons_zero, List.set_cons_succ]
      refine wpAnyH_take (fuel := 5) (i := 3) (oi := ⟨some 62, _, _, _, _, _⟩) (v := .map (some K.m)) rfl (by kernel_rfl) (by kernel_rfl) (by kernel_rfl) (fun _ _ _ h => h) (Or.inl ⟨by rfl, ?_⟩) hh0 ?_
      · rintro w' ⟨c0, -, -⟩
        go_simp
      simp only [Act.put, List.setIfInBounds_toArray, List.set_cons_zero, List.set_cons_succ]
      refine wpAnyH_take (fuel := 4) (i := 4) (oi := ⟨some 63, _, _, _, _, _⟩) (v := .pointer (some ⟨mm, 1, none⟩)) rfl (by kernel_rfl) (by kernel_rfl) (by kernel_rfl) (fun _ _ _ h => h) (Or.inl ⟨by rfl, ?_⟩) hh0 ?_
      · intro w' _
        go_simp
      simp only [Act.put, List.setIfInBounds_toArray, List.set_cons_zero, List.set_cons_succ]
      refine wpAnyH_take (fuel := 3) (i := 5) (oi := ⟨some 64, _, _, _, _, _⟩) (v := .int .i64 m.ln) rfl (by kernel_rfl) (by kernel_rfl) (by kernel_rfl) (fun _ _ _ h => h) (Or.inl ⟨by rfl, ?_⟩) hh0 ?_
      · rintro w' ⟨-, c0, -⟩
        go_simp
      simp only [Act.put, List.setIfInBounds_toArray, List.set_cons_zero, List.set_cons_succ]
      refine wpAnyH_take (fuel := 2) (i := 6) (oi := ⟨some 65, _, _, _, _, _⟩) (v := ptr mt) rfl (by kernel_rfl) (by kernel_rfl) (by kernel_rfl) (fun _ _ _ h => h) (Or.inl ⟨by rfl, ?_⟩) hh0 ?_
      · intro w' _
        go_simp
      simp only [Act.put, List.setIfInBounds_toArray, List.set_cons_zero, List.set_cons_succ]
      refine wpAnyH_take (fuel := 1) (i := 7) (oi := ⟨some 66, _, _, _, _, _⟩) (v := Sh.ev t.e p6 cap6) rfl (by kernel_rfl) (by kernel_rfl) (by kernel_rfl) (fun _ _ _ h => h) (Or.inl ⟨by rfl, ?_⟩) hh0 ?_
      · rintro w' ⟨-, -, c0⟩
        go_simp
      simp only [Act.put, List.setIfInBounds_toArray, List.set_cons_zero, List.set_cons_succ]
      refine wpAnyH_ready (fuel := 0) (rs := [8]) (by kernel_rfl) (by simp) ?_
      refine AllReadyH.cons (o := ⟨none, _, _, _, _, _⟩) rfl (fun P hP => ?_) AllReadyH.nil
      go_simp
      have H9 := Lib.hid h9
      show P _ _
      refine hP.out _ _ (⟨H9.out.hc, H9.out.cells (List.mem_cons_of_mem _ (List.mem_cons_of_mem _ (List.mem_cons_self ..))), H9.out.cells (List.mem_cons_self ..)⟩) (fun hh1 => ?_)
      clear hP P hh0 h9 hup
      try simp only [Act.put, List.setIfInBounds_toArray, List.set_cons_zero, List.set_cons_succ]
      refine wpAnyH_done (by kernel_rfl) ?_ _
      refine NoPanic.normal ?_
      clear hh1
      have hct := H9.out.cells (List.mem_cons_self ..)
      have hct6 : w9.cell? ⟨mt, 6, none⟩ = some (.bool t.wr) := hct 6
      clear hct H8
      rcases Bool.eq_false_or_eq_true t.wr with hwr | hwr
      · rw [hwr] at hct6
        have HS3 := Lib.hid ((if_pos hwr : (if t.wr = true then (Me.wrP c s.L m.ln (wdOf m)).2 else s.L) = _) ▸ HS2.out)
        clear hwr HS2
        go_upto_region 9 with fail
        refine wp_region_noPanic ?_
        refine wp_region_held_drew (S := (fun w' : World => (∀ o, w'.cell? ⟨K.h, o, none⟩ = (hcells c n K s.od)[o]?) ∧ (∀ o, w'.cell? ⟨mm, o, none⟩ = (mcells m)[o]?))) (by kernel_rfl) ⟨H9.out.hc, H9.out.cells (List.mem_cons_of_mem _ (List.mem_cons_of_mem _ (List.mem_cons_self ..)))⟩ (fun hh0 => ?_)
        replace H9 := Lib.hid H9.out.drew
        generalize World.drew w9 = w9 at *
        refine wpAnyH_take (fuel := 8) (i := 0) (oi := ⟨some 69, _, _, _, _, _⟩) (v := ptr K.h) rfl (by kernel_rfl) (by kernel_rfl) (by kernel_rfl) (fun _ _ _ h => h) (Or.inl ⟨by rfl, ?_⟩) hh0 ?_
        · intro w' _
          go_simp
        simp only [Act.put, List.setIfInBounds_toArray, List.set_cons_zero, List.set_cons_succ]
        refine wpAnyH_take (fuel := 7) (i := 1) (oi := ⟨some 70, _, _, _, _, _⟩) (v := ptr K.h) rfl (by kernel_rfl) (by kernel_rfl) (by kernel_rfl) (fun _ _ _ h => h) (Or.inl ⟨by rfl, ?_⟩) hh0 ?_
        · intro w' _
          go_simp
        simp only [Act.put, List.setIfInBounds_toArray, List.set_cons_zero, List.set_cons_succ]
        refine wpAnyH_take (fuel := 6) (i := 2) (oi := ⟨some 71, _, _, _, _, _⟩) (v := .pointer (some ⟨K.h, 15, none⟩)) rfl (by kernel_rfl) (by kernel_rfl) (by kernel_rfl) (fun _ _ _ h => h) (Or.inl ⟨by rfl, ?_⟩) hh0 ?_
        · intro w' _
          go_simp
        simp only [Act.put, List.setIfInBounds_toArray, List.set_cons_zero, List.set_cons_succ]
        refine wpAnyH_take (fuel := 5) (i := 3) (oi := ⟨some 72, _, _, _, _, _⟩) (v := .pointer (some ⟨K.b, 0, none⟩)) rfl (by kernel_rfl) (by kernel_rfl) (by kernel_rfl) (fun _ _ _ h => h) (Or.inl ⟨by rfl, ?_⟩) hh0 ?_
        · rintro w' ⟨c0, -⟩
          go_simp
        simp only [Act.put, List.setIfInBounds_toArray, List.set_cons_zero, List.set_cons_succ]
        refine wpAnyH_take (fuel := 4) (i := 4) (oi := ⟨some 73, _, _, _, _, _⟩) (v := .pointer (some ⟨mm, 1, none⟩)) rfl (by kernel_rfl) (by kernel_rfl) (by kernel_rfl) (fun _ _ _ h => h) (Or.inl ⟨by rfl, ?_⟩) hh0 ?_
        · intro w' _
          go_simp
        simp only [Act.put, List.setIfInBounds_toArray, List.set_cons_zero, List.set_cons_succ]
        refine wpAnyH_take (fuel := 3) (i := 5) (oi := ⟨some 74, _, _, _, _, _⟩) (v := .int .i64 m.ln) rfl (by kernel_rfl) (by kernel_rfl) (by kernel_rfl) (fun _ _ _ h => h) (Or.inl ⟨by rfl, ?_⟩) hh0 ?_
        · rintro w' ⟨-, c0⟩
          go_simp
        simp only [Act.put, List.setIfInBounds_toArray, List.set_cons_zero, List.set_cons_succ]
        refine wpAnyH_take (fuel := 2) (i := 6) (oi := ⟨some 75, _, _, _, _, _⟩) (v := .pointer (some ⟨mm, 7, none⟩)) rfl (by kernel_rfl) (by kernel_rfl) (by kernel_rfl) (fun _ _ _ h => h) (Or.inl ⟨by rfl, ?_⟩) hh0 ?_
        · intro w' _
          go_simp
        simp only [Act.put, List.setIfInBounds_toArray, List.set_cons_zero, List.set_cons_succ]
        refine wpAnyH_take (fuel := 1) (i := 7) (oi := ⟨some 76, _, _, _, _, _⟩) (v := .agg (Me.dcells (wdOf m))) rfl (by kernel_rfl) (by kernel_rfl) (by kernel_rfl) (fun _ _ _ h => h) (Or.inl ⟨by rfl, ?_⟩) hh0 ?_
        · rintro w' ⟨-, c0⟩
          go_simp
        simp only [Act.put, List.setIfInBounds_toArray, List.set_cons_zero, List.set_cons_succ]
        refine wpAnyH_ready (fuel := 0) (rs := [8]) (by kernel_rfl) (by simp) ?_
        refine AllReadyH.cons (o := ⟨some 77, _, _, _, _, _⟩) rfl (fun P hP => ?_) AllReadyH.nil
        go_simp
        refine (H9.out.write m.ln (wdOf m)).mono ?_
        rintro e w10 ⟨rfl, h10⟩
        have H10 := Lib.hid h10
        clear h10
        show P _ _
        refine hP.out _ _ (⟨H10.out.hc, H10.out.cells (List.mem_cons_of_mem _ (List.mem_cons_of_mem _ (List.mem_cons_self ..)))⟩) (fun hh1 => ?_)
        clear hP P hh0
        refine wpAnyH_done (by kernel_rfl) ?_ _
        refine NoPanic.normal ?_
        clear hh1
        clear H9
        go_wp2
        go_end0
        rw [HS3.out]
        exact ⟨⟨_, rfl⟩, H10.out.drop.drop.drop.drop⟩
      · rw [hwr] at hct6
        have HS3 := Lib.hid ((if_neg (by simp [hwr]) : (if t.wr = true then (Me.wrP c s.L m.ln (wdOf m)).2 else s.L) = _) ▸ HS2.out)
        clear hwr HS2
        go_wp2
        go_end0
        rw [HS3.out]
        exact ⟨⟨_, rfl⟩, H9.out.drop.drop.drop.drop⟩

end Go.Proofs.YtpknfbgnclgpmaaGreatDoor.Ho
