/-
  What drop of a home does.
-/
import Derived.Test.YtpknfbgnclgpmaaGreatDoorHoD
namespace Go.Proofs.YtpknfbgnclgpmaaGreatDoor.Ho
open Go Go.RowKit

variable {w0 w w' wr : World} {K : Kb} {c : Cfg} {n : Int} {s : Hs} {X : Nat → Obj → Prop} {bx : Bx}
/-- The queue alone, with the boxes named. -/
theorem Own.quX (h : Own w0 K c n s X bx wr) : ∃ ys, Qu.OwnP w0 K.q c.bu s.Q X ys wr ∧ (∀ p ∈ bx, p ∈ ys) ∧ (K.h, .cells (hcells c n K s.od) 95 (0, 0)) ∈ ys ∧ ∀ l' w', Qu.OwnP w0 K.q c.bu l' X ys w' → (∀ x ∈ l', Rq c n x.m) → (∀ x ∈ l', ∀ m ∈ x.l, Sd n x.m.ln m) → Own w0 K c n { s with Q := l' } X bx w' := by
  obtain ⟨o, P, D, g, h1, h2⟩ := h.ex
  exact ⟨_, h2, fun p hp => List.mem_append_right _ hp, by simp, fun l' w' hq hr hs => ⟨⟨o, P, D, g, h1, hq⟩, ⟨h.gd.ok, h.gd.n0, h.gd.n1, hq.gd, hr, hs, h.gd.en⟩, h.sz, h.fits, h.tb⟩⟩
theorem min_one {W : World} (m : Msg) : Qu.MIn (W.alloc (.cells (mcells m) 38)) (some ⟨W.heap.size, 0, none⟩) [m] := fun i x hx => by
  have hi := (List.getElem?_eq_some_iff.1 hx).1
  obtain rfl : i = 0 := by simpa using hi
  obtain rfl : m = x := by simpa using hx
  refine ⟨W.heap.size, 0, rfl, by simp, fun j v hv => ?_⟩
  rw [Qu.blk_cell (heap_alloc_new W _), Nat.zero_mul, Nat.add_zero, Nat.zero_add]
  rw [← hv, Qu.mg, Array.getElem?_toList]
set_option maxRecDepth 100000 in
set_option maxHeartbeats 4000000 in
theorem Own.dropF (h : Own w0 K c n s X bx w) (i : Nat) (x : Qu.En) (hx : s.Q[i]? = some x) (hr : Qu.rdy s.Q i = true) (hk : x.m.kd ≠ 3) :
    Calls Tryz.prog 99 #[ptr K.h, .int .i64 i, mv x.m] w fun e w' => (∃ v, e = .returned v) ∧ Own w0 K c n ⟨s.E, s.L, dropQ s.Q i x.m, wrap64 (s.od + 1)⟩ X bx w' := by
  have hz := dropQ_erase hx hr hk
  have h1 := h.add (.cells (mcells x.m) 38)
  have hk1 := h1.hc
  have hf1 := Qu.blk_free h1.hblk 17
  have h2 := h1.odd (wrap64 (s.od + 1))
  obtain ⟨ys, hq, hm, hh, hf⟩ := h2.quX
  have HQ := Lib.hid hq
  have HM := Lib.hid (hm _ (List.mem_cons_self ..))
  have HH := Lib.hid hh
  have HF : Hid (∀ w', Qu.OwnP w0 K.q c.bu (dropQ s.Q i x.m) X ys w' → Own w0 K c n ⟨s.E, s.L, dropQ s.Q i x.m, wrap64 (s.od + 1)⟩ X bx w') := Lib.hid (fun w' ho => (hf _ w' ho (fun y hy => by rw [hz] at hy; exact h.gd.rq y (List.mem_of_mem_eraseIdx hy)) (fun y hy => by rw [hz] at hy; exact h.gd.sd y (List.mem_of_mem_eraseIdx hy))).drop)
  have e1 : Qu.startP s.Q i [x.m] = ((Qu.startP s.Q i [x.m]).1, (Qu.startP s.Q i [x.m]).2) := rfl
  have E1 := Lib.hid e1
  have hD : dropQ s.Q i x.m = (Qu.finP (Qu.sentP (Qu.startP s.Q i [x.m]).2 i).2 x.m.ln x.m.fr).2 := rfl
  obtain ⟨S2, hS⟩ : ∃ S2 : Hs, S2 = ⟨s.E, s.L, dropQ s.Q i x.m, wrap64 (s.od + 1)⟩ := ⟨_, rfl⟩
  rw [← hS] at HF ⊢
  clear hS
  rw [hD] at HF
  clear h hx hr hk hz h1 h2 hq hm hh hf e1 hD
  generalize (Qu.startP s.Q i [x.m]).1 = n1 at *
  generalize (Qu.startP s.Q i [x.m]).2 = l1 at *
  go_enter Tryz.func99, Tryz.ntmps99
  go_upto_region 2 with fail
  generalize World.setCell _ _ _ = w2 at *
  clear hk1 hf1
  have c2 := HQ.out.cells HM.out
  refine wp_region_noPanic ?_
  refine wp_region_held_drew (S := (fun w' : World => (∀ o, w'.cell? ⟨K.h, o, none⟩ = (hcells c n K (wrap64 (s.od + 1)))[o]?) ∧ (∀ o, w'.cell? ⟨w.heap.size, o, none⟩ = (mcells x.m)[o]?))) (by kernel_rfl) ⟨HQ.out.cells HH.out, HQ.out.cells HM.out⟩ (fun hh0 => ?_)
  replace HQ := Lib.hid HQ.out.drew
  generalize World.drew w2 = w2 at *
  refine wpAnyH_take (fuel := 7) (i := 0) (oi := ⟨some 13, _, _, _, _, _⟩) (v := ptr K.h) rfl (by kernel_rfl) (by kernel_rfl) (by kernel_rfl) (fun _ _ _ h => h) (Or.inl ⟨by rfl, ?_⟩) hh0 ?_
  · intro w' _
    go_simp
  simp only [Act.put, List.setIfInBounds_toArray, List.set_cons_zero, List.set_cons_succ]
  refine wpAnyH_take (fuel := 6) (i := 1) (oi := ⟨some 14, _, _, _, _, _⟩) (v := ptr K.h) rfl (by kernel_rfl) (by kernel_rfl) (by kernel_rfl) (fun _ _ _ h => h) (Or.inl ⟨by rfl, ?_⟩) hh0 ?_
  · intro w' _
    go_simp
  simp only [Act.put, List.setIfInBounds_toArray, List.set_cons_zero, List.set_cons_succ]
  refine wpAnyH_take (fuel := 5) (i := 2) (oi := ⟨some 15, _, _, _, _, _⟩) (v := .pointer (some ⟨K.h, 16, none⟩)) rfl (by kernel_rfl) (by kernel_rfl) (by kernel_rfl) (fun _ _ _ h => h) (Or.inl ⟨by rfl, ?_⟩) hh0 ?_
  · intro w' _
    go_simp
  simp only [Act.put, List.setIfInBounds_toArray, List.set_cons_zero, List.set_cons_succ]
  refine wpAnyH_take (fuel := 4) (i := 3) (oi := ⟨some 16, _, _, _, _, _⟩) (v := ptr K.q) rfl (by kernel_rfl) (by kernel_rfl) (by kernel_rfl) (fun _ _ _ h => h) (Or.inl ⟨by rfl, ?_⟩) hh0 ?_
  · rintro w' ⟨c0, -⟩
    go_simp
  simp only [Act.put, List.setIfInBounds_toArray, List.set_cons_zero, List.set_cons_succ]
  refine wpAnyH_take (fuel := 3) (i := 4) (oi := ⟨some 17, _, _, _, _, _⟩) (v := .int .i64 i) rfl (by kernel_rfl) (by kernel_rfl) (by kernel_rfl) (fun _ _ _ h => h) (Or.inl ⟨by rfl, ?_⟩) hh0 ?_
  · intro w' _
    go_simp
  simp only [Act.put, List.setIfInBounds_toArray, List.set_cons_zero, List.set_cons_succ]
  refine wpAnyH_take (fuel := 2) (i := 5) (oi := ⟨some 18, _, _, _, _, _⟩) (v := mv x.m) rfl (by kernel_rfl) (by kernel_rfl) (by kernel_rfl) (fun _ _ _ h => h) (Or.inl ⟨by rfl, ?_⟩) hh0 ?_
  · rintro w' ⟨-, c0⟩
    go_simp
  simp only [Act.put, List.setIfInBounds_toArray, List.set_cons_zero, List.set_cons_succ]
  refine wpAnyH_ready (fuel := 1) (rs := [6]) (by kernel_rfl) (by simp) ?_
  refine AllReadyH.cons (o := ⟨some 19, _, _, _, _, _⟩) rfl (fun P hP => ?_) AllReadyH.nil
  go_simp
  have HQa := Lib.hid (HQ.out.add (.cells (mcells x.m) 38))
  show P _ _
  refine hP.out _ _ (⟨HQa.out.cells (List.mem_cons_of_mem _ HH.out), HQa.out.cells (List.mem_cons_of_mem _ HM.out)⟩) (fun hh1 => ?_)
  clear hP P hh0
  try simp only [Act.put, List.setIfInBounds_toArray, List.set_cons_zero, List.set_cons_succ]
  refine wpAnyH_ready (fuel := 0) (rs := [7]) (by kernel_rfl) (by simp) ?_
  refine AllReadyH.cons (o := ⟨some 20, _, _, _, _, _⟩) rfl (fun P hP => ?_) AllReadyH.nil
  go_simp
  refine (HQa.out.startQ i (some ⟨w2.heap.size, 0, none⟩) 1 [x.m] (min_one x.m) (by simp) E1.out).mono ?_
  rintro _ w3 ⟨rfl, h3⟩
  have HQ3 := Lib.hid h3.drop
  clear h3 HQa HQ c2
  show P _ _
  refine hP.out _ _ (⟨HQ3.out.cells HH.out, HQ3.out.cells HM.out⟩) (fun hh2 => ?_)
  clear hP P hh1
  try simp only [Act.put, List.setIfInBounds_toArray, List.set_cons_zero, List.set_cons_succ]
  refine wpAnyH_done (by kernel_rfl) ?_ _
  refine NoPanic.normal ?_
  clear hh2
  have c3 := HQ3.out.cells HH.out
  obtain ⟨n4, e4⟩ : ∃ n4, Qu.sentP l1 i = (n4, (Qu.sentP l1 i).2) := ⟨_, rfl⟩
  have E4 := Lib.hid e4
  clear e4
  obtain ⟨l4, hl4⟩ : ∃ l4, (Qu.sentP l1 i).2 = l4 := ⟨_, rfl⟩
  rw [hl4] at E4 HF
  clear hl4
  obtain ⟨n5, e5⟩ : ∃ n5, Qu.finP l4 x.m.ln x.m.fr = (n5, (Qu.finP l4 x.m.ln x.m.fr).2) := ⟨_, rfl⟩
  have E5 := Lib.hid e5
  clear e5
  obtain ⟨l5, hl5⟩ : ∃ l5, (Qu.finP l4 x.m.ln x.m.fr).2 = l5 := ⟨_, rfl⟩
  rw [hl5] at E5 HF
  clear hl5
  go_wp2_with (go_at_call 63; refine (HQ3.out.sentQ i E4.out).mono ?_; rintro _ w4 ⟨rfl, h4⟩; have HQ4 := Lib.hid h4; clear h4 c3 HQ3)
  have c4 := HQ4.out.cells HH.out
  have d4 := HQ4.out.cells HM.out
  go_region_held3 (fun w' : World => (∀ o, w'.cell? ⟨K.h, o, none⟩ = (hcells c n K (wrap64 (s.od + 1)))[o]?) ∧ (∀ o, w'.cell? ⟨w.heap.size, o, none⟩ = (mcells x.m)[o]?))
    (first | exact ⟨c4, d4⟩ | exact ⟨HQ5.out.cells HH.out, HQ5.out.cells HM.out⟩ | go_keep)
    (first
      | (go_at_call 64; refine (Qu.Own.finQ (by first | exact HQ4.out | exact HQ4.out.drew) x.m.ln x.m.fr E5.out).mono ?_; rintro e w5 ⟨rfl, h5⟩; have HQ5 := Lib.hid h5; clear h5))
  go_wp2
  go_end0
  exact ⟨⟨_, rfl⟩, HF.out _ HQ5.out⟩

end Go.Proofs.YtpknfbgnclgpmaaGreatDoor.Ho
