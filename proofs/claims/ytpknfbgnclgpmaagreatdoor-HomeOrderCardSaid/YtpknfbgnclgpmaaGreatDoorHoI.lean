/-
  What New of a home does.
-/
import Derived.Test.YtpknfbgnclgpmaaGreatDoorHoH
namespace Go.Proofs.YtpknfbgnclgpmaaGreatDoor.Ho
open Go Go.RowKit

abbrev cfc (c : Cfg) : Array Value := #[.int .i64 c.co, .int .i64 c.ho, .int .i64 c.se, .int .i64 c.wa, .int .i64 c.wo, .int .i64 c.li, .int .i64 c.po, .int .i64 c.ms, .int .i64 c.bu, .int .i64 c.wb, .int .i64 c.r0, .int .i64 c.r1, .int .i64 c.r2]
variable {w0 w w' wr wr' : World} {K : Kb} {c : Cfg} {n : Int} {s : Hs} {X : Nat → Obj → Prop} {bx : Bx}
/-- Boxes that a call has made. -/
theorem mv_gains {zs : Bx} (hb : Below wr.heap.size wr wr') (hz : ∀ p ∈ zs, wr.heap.size ≤ p.1 ∧ wr'.heap[p.1]? = some p.2) (hd : (zs.map Prod.fst).Nodup) : Qu.Mv w0 bx wr (zs ++ bx) wr' := fun F X h => by
  obtain ⟨h1, h2, h3⟩ := Qu.mv_step (w0 := w0) (bx := bx) hb F X h
  refine ⟨⟨h1.bl, fun p hp => ?_, ?_, h1.ft, fun j oj hj => ⟨(h1.kp j oj hj).1, (h1.kp j oj hj).2.1, fun p hp => ?_⟩⟩, h2, h3⟩
  · rcases List.mem_append.1 hp with hp | hp
    · exact ⟨(hz p hp).2, Nat.le_trans h.bl.size (hz p hp).1, fun e => by have := (h.ft _ e).2; have := (hz p hp).1; omega⟩
    · exact h1.at_ p hp
  · rw [List.map_append, List.nodup_append]
    refine ⟨hd, h.nd, fun a ha b hb e => ?_⟩
    obtain ⟨p, hp, rfl⟩ := List.mem_map.1 ha
    obtain ⟨q, hq, rfl⟩ := List.mem_map.1 hb
    have := Qu.lt_of_block (h.at_ q hq).1
    have := (hz p hp).1
    omega
  · rcases List.mem_append.1 hp with hp | hp
    · have := Qu.lt_of_block (h.kp j oj hj).1
      have := (hz p hp).1
      omega
    · exact (h1.kp j oj hj).2.2 p hp
/-- A new queue beside boxes. -/
theorem newQ (hB : Qu.Bx w0 (fun _ => False) X bx wr) {room : Int} (h1 : 1 ≤ room) (h2 : room ≤ 16) : Qu.OwnP w0 wr.heap.size room [] X bx (wr.alloc (.cells #[.int .i64 room, .slice none 0 0] 140)) := by
  have hf : ∀ k, Qu.Ff wr.heap.size (.slice none 0 0) [] k → k = wr.heap.size := fun k hk => by
    rcases hk with hk | hk | ⟨x, hx, _⟩
    · exact hk
    · simp [Value.ownBlock] at hk
    · cases hx
  have hbl := Qu.balloc wr (.cells #[.int .i64 room, .slice none 0 0] 140)
  refine ⟨[], .slice none 0 0, rfl, ⟨Qu.Bg.new hB.bl.size, fun x hx => (by cases hx), fun x hx => (by cases hx)⟩, Qu.Good.new h1 h2, ⟨bstep hB.bl hbl, fun p hp => ?_, hB.nd, fun k hk => ?_, fun k o hk => ?_⟩⟩
  · obtain ⟨q1, q2, -⟩ := hB.at_ p hp
    have := Qu.lt_of_block q1
    exact ⟨(hbl.block _ this).trans q1, q2, fun e => by have := hf _ e; omega⟩
  · rw [hf k hk]
    exact ⟨hB.bl.size, by simp⟩
  · obtain ⟨q1, -, q3⟩ := hB.kp k o hk
    have := Qu.lt_of_block q1
    exact ⟨(hbl.block _ this).trans q1, fun e => by have := hf _ e; omega, q3⟩

set_option maxRecDepth 100000 in
set_option maxHeartbeats 2000000 in
theorem newH_bad (c : Cfg) (n : Int) (w : World) (hc : c.fits) (hb : okC c = false ∨ okC c = true ∧ (n < 0 ∨ ¬ n < 0 ∧ c.ho ≤ n)) :
    Calls Tryz.prog 8 #[cv c, .int .i64 n] w fun e w' => e = .returned (.tuple #[.pointer none, .int .i64 1]) ∧ Below w.heap.size w w' := by
  rcases hb with hok | ⟨hok, hn⟩
  · have HM := Lib.hid (fun w1 => Me.new_no c w1 hc hok)
    clear hc hok
    go_enter Tryz.func8, Tryz.ntmps8
    go_wp2_with (go_at_call 28; refine (HM.out _).mono ?_; rintro _ w1 ⟨rfl, hb1⟩)
    go_ret2
    exact ⟨rfl, Qu.bbox hb1⟩
  · have HM := Lib.hid (fun w1 => Me.new_yes c w1 hc hok)
    clear hc hok
    rcases hn with h1 | ⟨h1, h2⟩
    · have d1 : decide (n < 0) = true := by simpa using h1
      go_enter Tryz.func8, Tryz.ntmps8
      go_wp2_with (go_at_call 28; refine (HM.out _).mono ?_; rintro _ w1 ⟨b, g, rfl, -, -, -, hb1⟩; have hcl := fun o => hb1.cell (p := ⟨w.heap.size, o, none⟩) (by simp))
      go_ret2
      exact ⟨rfl, Qu.bbox hb1⟩
    · have d1 : decide (n < 0) = false := by simpa using h1
      have d2 : decide (c.ho ≤ n) = true := by simpa using h2
      go_enter Tryz.func8, Tryz.ntmps8
      go_wp2_with (go_at_call 28; refine (HM.out _).mono ?_; rintro _ w1 ⟨b, g, rfl, -, -, -, hb1⟩; have hcl := fun o => hb1.cell (p := ⟨w.heap.size, o, none⟩) (by simp))
      go_ret2
      exact ⟨rfl, Qu.bbox hb1⟩
set_option maxRecDepth 100000 in
set_option maxHeartbeats 4000000 in
theorem newH_yes (hB : Qu.Bx w0 (fun _ => False) X bx w) (hc : c.fits) (hT : Tb w0) (hok : okC c = true) (h0 : 0 ≤ n) (h1 : n < c.ho) :
    Calls Tryz.prog 8 #[cv c, .int .i64 n] w fun e w' => ∃ K, e = .returned (.tuple #[ptr K.h, .int .i64 0]) ∧ Own w0 K c n (s0 c) X bx w' ∧ Below w.heap.size w w' := by
  have hs := sizes hok
  have HM := Lib.hid (fun w1 => Me.new_yes c w1 hc hok)
  have HQn := Lib.hid (fun w1 => Qu.new_yes c.bu w1 hs.2.2.2.2.1 hs.2.2.2.2.2)
  have HU := Lib.hid (fun w1 (h : Below w0.heap.size w0 w1) => unknown_any c n w1 hc (hT.keeps h) hok)
  have HB0 := Lib.hid ((Qu.mv_add (w0 := w0) (.cells (cfc c) 24)) _ _ hB).1
  have BL0 := Lib.hid (Qu.balloc w (.cells (cfc c) 24))
  have HS := Lib.hid (⟨hs.2.2.2.2.1, hs.2.2.2.2.2⟩ : 1 ≤ c.bu ∧ c.bu ≤ 16)
  have HC := Lib.hid hc
  have HT := Lib.hid hT
  have HG := Lib.hid (good0 hok h0 h1)
  have d1 : decide (n < 0) = false := by simpa using h0
  have d2 : decide (c.ho ≤ n) = false := by simpa using h1
  clear hB hc hT hok h0 h1 hs
  go_enter Tryz.func8, Tryz.ntmps8
  go_upto_region 5 with (first
    | (go_at_call 28; refine (HM.out _).mono ?_; rintro _ w1 ⟨b, g, rfl, hmm, hbb, hgg, hb1⟩; have HB1 := Lib.hid ((mv_gains (zs := [(b, .cells (Me.mcells c g (List.replicate (c.wo * c.li).toNat (0 : Int)).length) 138 (0, 0)), (g, .cells (Me.icells (List.replicate (c.wo * c.li).toNat (0 : Int))).toArray 3 (0, 0))]) hb1 (by intro p hp; simp only [List.mem_cons, List.not_mem_nil, or_false] at hp; rcases hp with rfl | rfl; exact ⟨hbb, hmm.hb⟩; exact ⟨hgg, hmm.hg⟩) (by simpa using hmm.ne)) _ _ HB0.out).1; have HSz := Lib.hid hmm.sz; have BL1 := Lib.hid (bstep BL0.out hb1); have hcl := Qu.blk_cell (HB1.out.at_ (w.heap.size, .cells (cfc c) 24 (0, 0)) (by simp)).1; clear hmm hbb hgg hb1 HB0 HM)
    | (go_at_call 29; refine (HQn.out _).mono ?_; rintro _ w2 ⟨rfl, hw2⟩; have HQ2 := newQ HB1.out HS.out.1 HS.out.2; have BL2 := bstep BL1.out (Qu.balloc w1 (.cells #[.int .i64 c.bu, .slice none 0 0] 140)); rw [hw2] at HQ2 BL2; replace HQ2 := Lib.hid HQ2; replace BL2 := Lib.hid BL2; clear hw2 hcl HB1 BL1 HQn; generalize w1.heap.size = qb at *))
  replace BL2 := Lib.hid BL2.out.drew
  refine wp_region_noPanic ?_
  refine wp_region_held_drew (S := (fun w' : World => (∀ o, w'.cell? ⟨w.heap.size, o, none⟩ = (cfc c)[o]?))) (by kernel_rfl) (HQ2.out.cells (n := w.heap.size) (cs := cfc c) (t := 24) (by simp)) (fun hh0 => ?_)
  replace HQ2 := Lib.hid HQ2.out.drew
  generalize World.drew w2 = w2 at *
  refine wpAnyH_take (fuel := 10) (i := 0) (oi := ⟨some 33, _, _, _, _, _⟩) (v := cv c) rfl (by kernel_rfl) (by kernel_rfl) (by kernel_rfl) (fun _ _ _ h => h) (Or.inl ⟨by rfl, ?_⟩) hh0 ?_
  · rintro w' c0
    go_simp
  simp only [Act.put, List.setIfInBounds_toArray, List.set_cons_zero, List.set_cons_succ]
  refine wpAnyH_take (fuel := 9) (i := 1) (oi := ⟨some 34, _, _, _, _, _⟩) (v := .int .i64 n) rfl (by kernel_rfl) (by kernel_rfl) (by kernel_rfl) (fun _ _ _ h => h) (Or.inl ⟨by rfl, ?_⟩) hh0 ?_
  · intro w' _
    go_simp
  simp only [Act.put, List.setIfInBounds_toArray, List.set_cons_zero, List.set_cons_succ]
  refine wpAnyH_take (fuel := 8) (i := 2) (oi := ⟨some 35, _, _, _, _, _⟩) (v := cv c) rfl (by kernel_rfl) (by kernel_rfl) (by kernel_rfl) (fun _ _ _ h => h) (Or.inl ⟨by rfl, ?_⟩) hh0 ?_
  · rintro w' c0
    go_simp
  simp only [Act.put, List.setIfInBounds_toArray, List.set_cons_zero, List.set_cons_succ]
  refine wpAnyH_take (fuel := 7) (i := 3) (oi := ⟨some 36, _, _, _, _, _⟩) (v := .int .i64 n) rfl (by kernel_rfl) (by kernel_rfl) (by kernel_rfl) (fun _ _ _ h => h) (Or.inl ⟨by rfl, ?_⟩) hh0 ?_
  · intro w' _
    go_simp
  simp only [Act.put, List.setIfInBounds_toArray, List.set_cons_zero, List.set_cons_succ]
  refine wpAnyH_take (fuel := 6) (i := 5) (oi := ⟨some 38, _, _, _, _, _⟩) (v := ptr b) rfl (by kernel_rfl) (by kernel_rfl) (by kernel_rfl) (fun _ _ _ h => h) (Or.inl ⟨by rfl, ?_⟩) hh0 ?_
  · intro w' _
    go_simp
  simp only [Act.put, List.setIfInBounds_toArray, List.set_cons_zero, List.set_cons_succ]
  refine wpAnyH_take (fuel := 5) (i := 6) (oi := ⟨some 39, _, _, _, _, _⟩) (v := ptr qb) rfl (by kernel_rfl) (by kernel_rfl) (by kernel_rfl) (fun _ _ _ h => h) (Or.inl ⟨by rfl, ?_⟩) hh0 ?_
  · intro w' _
    go_simp
  simp only [Act.put, List.setIfInBounds_toArray, List.set_cons_zero, List.set_cons_succ]
  refine wpAnyH_ready (fuel := 4) (rs := [4]) (by kernel_rfl) (by simp) ?_
  refine AllReadyH.cons (o := ⟨some 37, _, _, _, _, _⟩) rfl (fun P hP => ?_) AllReadyH.nil
  go_simp
  refine (HU.out _ HQ2.out.bl).mono ?_
  rintro _ w3 ⟨mb, om, D, gm, rfl, hom, hmb, hents, hb3⟩
  have HQ3 := Lib.hid (HQ2.out.goes (mv_gain hb3 hmb hom))
  have BL3 := Lib.hid (bstep BL2.out hb3)
  have HEn := Lib.hid hents
  clear hom hmb hents hb3 HQ2 BL2
  show P _ _
  refine hP.out _ _ (HQ3.out.cells (n := w.heap.size) (cs := cfc c) (t := 24) (by simp)) (fun hh1 => ?_)
  clear hP P hh0
  try simp only [Act.put, List.setIfInBounds_toArray, List.set_cons_zero, List.set_cons_succ]
  refine wpAnyH_take (fuel := 3) (i := 7) (oi := ⟨some 40, _, _, _, _, _⟩) (v := .agg (#[.int .i64 c.co, .int .i64 c.ho, .int .i64 c.se, .int .i64 c.wa, .int .i64 c.wo, .int .i64 c.li, .int .i64 c.po, .int .i64 c.ms, .int .i64 c.bu, .int .i64 c.wb, .int .i64 c.r0, .int .i64 c.r1, .int .i64 c.r2, .int .i64 n, .map (some mb), ptr b, ptr qb, .int .i64 0])) rfl (by kernel_rfl) (by kernel_rfl) (by kernel_rfl) (fun _ _ _ h => h) (Or.inl ⟨by rfl, ?_⟩) hh1 ?_
  · intro w' _
    go_simp
  simp only [Act.put, List.setIfInBounds_toArray, List.set_cons_zero, List.set_cons_succ]
  refine wpAnyH_ready (fuel := 2) (rs := [8]) (by kernel_rfl) (by simp) ?_
  refine AllReadyH.cons (o := ⟨some 41, _, _, _, _, _⟩) rfl (fun P hP => ?_) AllReadyH.nil
  go_simp
  have HQ4 := Lib.hid (HQ3.out.add (.cells (#[.int .i64 c.co, .int .i64 c.ho, .int .i64 c.se, .int .i64 c.wa, .int .i64 c.wo, .int .i64 c.li, .int .i64 c.po, .int .i64 c.ms, .int .i64 c.bu, .int .i64 c.wb, .int .i64 c.r0, .int .i64 c.r1, .int .i64 c.r2, .int .i64 n, .map (some mb), ptr b, ptr qb, .int .i64 0]) 95))
  have BL4 := Lib.hid (bstep BL3.out (Qu.balloc w3 (.cells (#[.int .i64 c.co, .int .i64 c.ho, .int .i64 c.se, .int .i64 c.wa, .int .i64 c.wo, .int .i64 c.li, .int .i64 c.po, .int .i64 c.ms, .int .i64 c.bu, .int .i64 c.wb, .int .i64 c.r0, .int .i64 c.r1, .int .i64 c.r2, .int .i64 n, .map (some mb), ptr b, ptr qb, .int .i64 0]) 95)))
  show P _ _
  refine hP.out _ _ (HQ4.out.cells (n := w.heap.size) (cs := cfc c) (t := 24) (by simp)) (fun hh2 => ?_)
  clear hP P hh1
  try simp only [Act.put, List.setIfInBounds_toArray, List.set_cons_zero, List.set_cons_succ]
  refine wpAnyH_take (fuel := 1) (i := 9) (oi := ⟨some 4, _, _, _, _, _⟩) (v := ptr w3.heap.size) rfl (by kernel_rfl) (by kernel_rfl) (by kernel_rfl) (fun _ _ _ h => h) (Or.inl ⟨by rfl, ?_⟩) hh2 ?_
  · intro w' _
    go_simp
  simp only [Act.put, List.setIfInBounds_toArray, List.set_cons_zero, List.set_cons_succ]
  refine wpAnyH_take (fuel := 0) (i := 10) (oi := ⟨some 5, _, _, _, _, _⟩) (v := .int .i64 0) rfl (by kernel_rfl) (by kernel_rfl) (by kernel_rfl) (fun _ _ _ h => h) (Or.inl ⟨by rfl, ?_⟩) hh2 ?_
  · intro w' _
    go_simp
  simp only [Act.put, List.setIfInBounds_toArray, List.set_cons_zero, List.set_cons_succ]
  refine wpAnyH_done (by kernel_rfl) ?_ _
  refine NoPanic.normal ?_
  clear hh2
  have HF : Hid (Own w0 ⟨w3.heap.size, mb, b, g, qb⟩ c n (s0 c) X bx (w3.alloc (.cells (#[.int .i64 c.co, .int .i64 c.ho, .int .i64 c.se, .int .i64 c.wa, .int .i64 c.wo, .int .i64 c.li, .int .i64 c.po, .int .i64 c.ms, .int .i64 c.bu, .int .i64 c.wb, .int .i64 c.r0, .int .i64 c.r1, .int .i64 c.r2, .int .i64 n, .map (some mb), ptr b, ptr qb, .int .i64 0]) 95))) := Lib.hid ⟨⟨om, [], D, gm, HEn.out, by
    have q := HQ4.out
    refine Qu.Own.drop (p := (w.heap.size, .cells (cfc c) 24 (0, 0))) (q.perm ?_)
    exact (List.perm_middle (l₁ := [_, _, _, _]))⟩, HG.out, HSz.out, HC.out, HT.out⟩
  go_wp2
  go_ret2
  exact ⟨_, rfl, HF.out, BL4.out⟩

end Go.Proofs.YtpknfbgnclgpmaaGreatDoor.Ho
