/-
  Delete of one entry; remove, Finish.
-/
import Derived.Test.YtpknfbgnclgpmaaGreatDoorQuF
namespace Go.Proofs.YtpknfbgnclgpmaaGreatDoor.Qu
open Go Go.RowKit

set_option maxRecDepth 100000 in
set_option maxHeartbeats 2000000 in
/-- Delete of one thing. -/
theorem del_at {w : World} {B g cap : Nat} {l : List Ep} (h : w.ownsRow B 80 17 (.slice (some ⟨g, 0, none⟩) l.length cap) l.length (cellsOf ec l)) (i j : Nat) (hj : j = i + 1) (hi : i < l.length) :
    Calls Tryz.prog 127 #[.slice (some ⟨g, 0, none⟩) l.length cap, .int .i64 i, .int .i64 j] w (DelGave 80 17 ec B g l.length cap (l.eraseIdx i) w) := by
  obtain ⟨i0, hi0, hz0, hz1, hz2⟩ := info_parts A57
  obtain ⟨hlen, hh⟩ := h
  obtain ⟨g', cap', cur, hv, hB, hg, hnc, hcm, hcs, ht⟩ : ∃ g' cap' cur, (Value.slice (some ⟨g, 0, none⟩) l.length cap) = .slice (some ⟨g', 0, none⟩) l.length cap' ∧ B ≤ g' ∧ w.heap[g']? = some (.cells cur 80 (0, 0)) ∧ l.length ≤ cap' ∧ cap' ≤ maxLen ∧ cur.size = cap' * 17 ∧ cur.toList.take (l.length * 17) = cellsOf ec l := by
    rcases hh with ⟨_, h0⟩ | h
    · omega
    · exact h
  obtain ⟨rfl, rfl⟩ : g = g' ∧ cap = cap' := by simpa using hv
  clear hv hh
  obtain ⟨news, hnews⟩ : ∃ news, news = (cellsOf ec l).drop ((i + 1) * 17) := ⟨_, rfl⟩
  have hnl : news.length = (l.length - (i + 1)) * 17 := by rw [hnews, List.length_drop, cellsOf_len ec_len]; omega
  obtain ⟨D, hD, hsrc⟩ : ∃ D : Addr, (if cap = j then some (⟨g, 0, none⟩ : Addr) else some ⟨g, j * 17, none⟩) = some D ∧ Hid (∀ t u, news[t]? = some u → w.drew.cell? (D.add t) = some u) := by
    by_cases hc : cap = j
    · refine ⟨⟨g, 0, none⟩, by simp [hc], fun t u hu => ?_⟩
      have h0 : news.length = 0 := by rw [hnl]; omega
      rw [List.length_eq_zero_iff.1 h0] at hu
      simp at hu
    · refine ⟨⟨g, j * 17, none⟩, by simp [hc], fun t u hu => ?_⟩
      have ht' : t < (l.length - (i + 1)) * 17 := by
        have := (List.getElem?_eq_some_iff.1 hu).1
        omega
      rw [Addr.add_lit]
      show w.cell? _ = _
      rw [blk_cell hg]
      rw [hnews, List.getElem?_drop, ← ht, List.getElem?_take, if_pos (by omega)] at hu
      simpa [hj] using hu
  obtain ⟨A, hA⟩ : ∃ A, A = (cur.toList.take (i * 17) ++ news ++ cur.toList.drop (i * 17 + news.length)).toArray := ⟨_, rfl⟩
  obtain ⟨R, hR⟩ : ∃ R, R = (A.toList.take ((i + (l.length - (i + 1))) * 17) ++ (ecells e0).toList ++ A.toList.drop ((i + (l.length - (i + 1))) * 17 + (ecells e0).size)).toArray := ⟨_, rfl⟩
  have hAs : A.size = cap * 17 := by
    rw [hA]
    simp only [List.size_toArray, List.length_append, List.length_take, List.length_drop, hnl, Array.length_toList, hcs]
    omega
  have s2 : Hid (∀ u ∈ news, u.oneCell' = true) := by
    intro u hu
    rw [hnews] at hu
    exact ecs_one l u (List.mem_of_mem_drop hu)
  have HE := Lib.hid (fun q => del_own ec_len hi hB hg hnc hcm hcs ht (zs := (ecells e0)) rfl hnews hA hR q)
  obtain ⟨W1, hW1⟩ : ∃ W1, W1 = w.drew.setRow g A := ⟨_, rfl⟩
  have hg1 : W1.heap[g]? = some (.cells A 80 (0, 0)) := by rw [hW1]; exact setRow_heap w.drew g _ A _ _ hg
  have hv23 : ∀ w : World, (zeroValue 80).run Tryz.prog w = .ok (.agg (ecells e0)) w := fun w => by kernel_rfl
  have hcl : ∀ ty c, (Builtin.clear_ #[56] ty #[.slice (some ⟨g, (i + (l.length - (i + 1))) * 17, none⟩) 1 c]).run Tryz.prog W1 = .ok (.tuple #[]) (W1.setRow g R) := by
    intro ty c
    have := run_clear_row (P := Tryz.prog) W1 56 80 ty (.agg (ecells e0)) Tryz.underlying56 hv23 (by intro u hu; exact ec_one e0 u (by simpa [ec, Value.cells] using hu)) g ((i + (l.length - (i + 1))) * 17) c A hg1 (by rw [hAs]; simp [Value.cells]; omega)
    rw [this, hR]
    simp [Value.cells]
  have HW := Lib.hid hW1
  have HA := Lib.hid hA
  have hHg := Lib.hid (show w.drew.heap[g]? = some (.cells cur 80 (0, 0)) from hg)
  have s1 := Lib.hid hnl
  have s4 : Hid (i * 17 + news.length ≤ cur.size) := by show i * 17 + news.length ≤ cur.size; rw [hnl, hcs]; omega
  rw [← hj] at hcl s1 HE
  have k1 : i < j := by omega
  have k2 : i ≤ cap := by omega
  have k3 : ¬ cap = i + (l.length - j) := by omega
  have k4 : i + (l.length - j) ≤ l.length := by omega
  have k5 : l.length - (i + (l.length - j)) = 1 := by omega
  have k6 : j ≤ l.length := by omega
  have k7 : j ≤ cap := by omega
  have k8 : i + (l.length - j) ≤ cap := by omega
  have hj' := Lib.hid hj
  clear hj hlen hg ht hnews hA hR hAs hW1 hg1 hcs
  go_enter Tryz.func127, Tryz.ntmps127
  go_wp2_with fail
  go_region_law (refine step_append_row rfl (.tmp 22) (.tmp 25) 56 rfl 80 i0 17 Tryz.underlying56 hi0 hz1 g i cap cur hHg.out (by simp [Act.eval, Act.put]) D (l.length - j) (cap - j) news (by simp [Act.eval, Act.put]) s1.out hsrc.out s2.out (by omega) s4.out ?_; rw [← HA.out, ← HW.out])
  go_wp2
  go_ret
  have := HE.out 1
  rw [HW.out]
  exact this


theorem drop_own {T e : TypeId} {w w1 w2 : World} {B b g cap : Nat} {room : Int} {l : List Ep} {i : Nat} (h : Bg T e 17 ec w B b room l (.slice (some ⟨g, 0, none⟩) l.length cap)) (hb : Below w.heap.size w w1) (hown : w2.ownsRow B e 17 (.slice (some ⟨g, 0, none⟩) (l.length - 1) cap) (l.eraseIdx i).length (cellsOf ec (l.eraseIdx i))) (ho : Only g w1 w2) :
    PutGave T e 17 ec w B b room (l.eraseIdx i) (.slice (some ⟨g, 0, none⟩) l.length cap) (w2.setCell ⟨b, 1, none⟩ (.slice (some ⟨g, 0, none⟩) (l.length - 1) cap)) := by
  have hgb : b ≠ g := fun e => h.off (by rw [e]; rfl)
  have hbl := h.lt
  have hb2 : w2.heap[b]? = some (.cells #[.int .i64 room, .slice (some ⟨g, 0, none⟩) l.length cap] T (0, 0)) := (ho.other b hgb).trans ((hb.block b hbl).trans h.blk)
  refine ⟨.slice (some ⟨g, 0, none⟩) (l.length - 1) cap, ⟨?_, ?_, h.off, h.big⟩, ⟨?_, ?_, ?_, ?_, fun k hk k1 k2 => ?_⟩, fun k hk => .inl hk⟩
  · rw [heap_setCell_same w2 b 1 _ _ _ hb2]
    rfl
  · refine own_block hown fun k hk => ?_
    simp only [Value.ownBlock, Option.some.injEq] at hk
    exact heap_setCell_other _ _ _ _ (by simp only; omega)
  · exact ho.os.trans hb.os
  · exact ho.tape.trans hb.tape
  · exact ho.output.trans hb.output
  · have h3 := hb.size; have h4 := ho.size; simp [World.setCell]; omega
  · exact (heap_setCell_other _ _ _ _ k1).trans ((ho.other k (fun e => k2 (by rw [e]; rfl))).trans (hb.block k hk))


theorem map_erase (l : List Ep) (i : Nat) : (l.eraseIdx i).map Ep.pl = (l.map Ep.pl).eraseIdx i := by
  rw [List.eraseIdx_eq_take_drop_succ, List.eraseIdx_eq_take_drop_succ, List.map_append, List.map_take, List.map_drop]
theorem PutGave.after {T e : TypeId} {w w1 w2 : World} {B b : Nat} {room : Int} {l : List Ep} {v : Value} (h : PutGave T e 17 ec w1 B b room l v w2) (hb : Below w.heap.size w w1) : PutGave T e 17 ec w B b room l v w2 := by
  obtain ⟨v', h1, h2, h3⟩ := h
  exact ⟨v', h1, (Turn.of_below hb).trans h2 (Fresh.refl _ _), fun k hk => (h3 k hk).imp id fun h4 => Nat.le_trans hb.size h4⟩
theorem rem_at {w : World} {B b : Nat} {room : Int} {l : List Ep} {g cap : Nat} (h : BgP w B b room l (.slice (some ⟨g, 0, none⟩) l.length cap)) (i : Nat) (hi : i < l.length) (hl : l.length ≤ 5000) :
    Calls Tryz.prog 103 #[.pointer (some ⟨b, 0, none⟩), .int .i64 i] w fun e w' => (∃ u, e = .returned u) ∧ PutGave 140 80 17 ec w B b room (l.eraseIdx i) (.slice (some ⟨g, 0, none⟩) l.length cap) w' := by
  have hgb : b ≠ g := h.off_of
  have c1 := blk_cell h.blk 1
  have HD : Hid (Calls Tryz.prog 127 #[.slice (some ⟨g, 0, none⟩) l.length cap, .int .i64 i, .int .i64 ((i : Int) + 1)] w (DelGave 80 17 ec B g l.length cap (l.eraseIdx i) w)) := Lib.hid (by
    have := del_at h.row i (i + 1) rfl hi
    rwa [show ((i + 1 : Nat) : Int) = (i : Int) + 1 by omega] at this)
  have HF : Hid (∀ w2, Only g w w2 → w2.heap[b]? = some (.cells #[.int .i64 room, .slice (some ⟨g, 0, none⟩) l.length cap] 140 (0, 0))) := Lib.hid (fun w2 ho => (ho.other b hgb).trans h.blk)
  have HE := Lib.hid (fun w2 hown ho => drop_own (w2 := w2) (i := i) h (Below.refl _ _) hown ho)
  simp at c1
  clear h
  go_enter Tryz.func103, Tryz.ntmps103
  go_wp2_with fail
  refine HD.out.mono ?_
  rintro e w2 ⟨rfl, hown, ho⟩
  have hbk := HF.out _ ho
  have R := Lib.hid (HE.out _ hown ho)
  have c2 := blk_cell hbk 1
  have f2 := blk_free hbk 1
  simp at c2
  clear hown ho hbk c1
  go_wp2
  go_end0
  exact ⟨⟨_, rfl⟩, R.out⟩

/-! Finish. -/
theorem fin_find (l : List Ep) (ln fr : Int) : (l.map Ep.pl).findIdx? (isF ln fr) = l.findIdx? (fun y => isF ln fr y.pl) := pl_find l _
set_option maxHeartbeats 1000000 in
theorem fin_none {w : World} {B b : Nat} {room : Int} {l : List Ep} {v : Value} (h : BgP w B b room l v) (ln fr : Int) (hl : l.length ≤ 5000) (hp : l.findIdx? (fun y => isF ln fr y.pl) = none) :
    Calls Tryz.prog 64 #[.pointer (some ⟨b, 0, none⟩), .int .i64 ln, .int .i64 fr] w fun e w' => e = .returned (.int .i64 7) ∧ Below w.heap.size w w' := by
  have hb := balloc2 w (.cells #[.int .i64 ln] 3) (.cells #[.int .i64 fr] 3)
  have k1 := blk_cell (new_at1 w (.cells #[.int .i64 ln] 3) (.cells #[.int .i64 fr] 3)) 0
  have k2 := blk_cell (new_at2 w (.cells #[.int .i64 ln] 3) (.cells #[.int .i64 fr] 3)) 0
  have HP := placeF (fun y => isF ln fr y.pl) (h.below hb) ⟨w.heap.size, 0, none⟩ ⟨w.heap.size + 1, 0, none⟩ hl fun y _ wr hbr => fnF_any y ⟨w.heap.size, 0, none⟩ ⟨w.heap.size + 1, 0, none⟩ ln fr wr ((hbr.cell (p := ⟨w.heap.size, 0, none⟩) (by simp; omega)).trans k1) ((hbr.cell (p := ⟨w.heap.size + 1, 0, none⟩) (by simp)).trans k2)
  rw [hp] at HP
  have HP := Lib.hid HP
  have HB := Lib.hid (fun w1 (hb1 : Below ((w.alloc (.cells #[.int .i64 ln] 3)).alloc (.cells #[.int .i64 fr] 3)).heap.size ((w.alloc (.cells #[.int .i64 ln] 3)).alloc (.cells #[.int .i64 fr] 3)) w1) => bstep hb hb1)
  clear h hp k1 k2 hb
  go_enter Tryz.func64, Tryz.ntmps64
  go_wp2_with fail
  refine HP.out.mono ?_
  rintro e w1 ⟨rfl, hb1⟩
  have hb2 := HB.out _ hb1
  clear hb1
  simp only [oi]
  go_wp2
  go_ret
  exact ⟨rfl, hb2⟩
set_option maxHeartbeats 1000000 in
theorem fin_some {w : World} {B b : Nat} {room : Int} {l : List Ep} {g cap : Nat} (h : BgP w B b room l (.slice (some ⟨g, 0, none⟩) l.length cap)) (ln fr : Int) (hl : l.length ≤ 5000) {i : Nat} (hp : l.findIdx? (fun y => isF ln fr y.pl) = some i) (hi : i < l.length) :
    Calls Tryz.prog 64 #[.pointer (some ⟨b, 0, none⟩), .int .i64 ln, .int .i64 fr] w fun e w' => e = .returned (.int .i64 0) ∧ PutGave 140 80 17 ec w B b room (l.eraseIdx i) (.slice (some ⟨g, 0, none⟩) l.length cap) w' := by
  have hb := balloc2 w (.cells #[.int .i64 ln] 3) (.cells #[.int .i64 fr] 3)
  have k1 := blk_cell (new_at1 w (.cells #[.int .i64 ln] 3) (.cells #[.int .i64 fr] 3)) 0
  have k2 := blk_cell (new_at2 w (.cells #[.int .i64 ln] 3) (.cells #[.int .i64 fr] 3)) 0
  have HP := placeF (fun y => isF ln fr y.pl) (h.below hb) ⟨w.heap.size, 0, none⟩ ⟨w.heap.size + 1, 0, none⟩ hl fun y _ wr hbr => fnF_any y ⟨w.heap.size, 0, none⟩ ⟨w.heap.size + 1, 0, none⟩ ln fr wr ((hbr.cell (p := ⟨w.heap.size, 0, none⟩) (by simp; omega)).trans k1) ((hbr.cell (p := ⟨w.heap.size + 1, 0, none⟩) (by simp)).trans k2)
  rw [hp] at HP
  have HP := Lib.hid HP
  have HB := Lib.hid (fun w1 (hb1 : Below ((w.alloc (.cells #[.int .i64 ln] 3)).alloc (.cells #[.int .i64 fr] 3)).heap.size ((w.alloc (.cells #[.int .i64 ln] 3)).alloc (.cells #[.int .i64 fr] 3)) w1) => bstep hb hb1)
  have HR := Lib.hid (fun w1 (hb1 : Below w.heap.size w w1) => rem_at (h.below hb1) i hi hl)
  clear h hp k1 k2 hb
  go_enter Tryz.func64, Tryz.ntmps64
  go_wp2_with fail
  refine HP.out.mono ?_
  rintro e w1 ⟨rfl, hb1⟩
  have hb2 := HB.out _ hb1
  clear hb1
  simp only [oi]
  go_wp2_with fail
  refine (HR.out _ hb2).mono ?_
  rintro e w2 ⟨⟨u, rfl⟩, R⟩
  have R2 := Lib.hid (PutGave.after R hb2)
  clear R
  go_wp2
  go_ret
  exact ⟨rfl, R2.out⟩
/-- Finish. -/
theorem fin_any {w : World} {B b : Nat} {room : Int} {l : List Ep} {v : Value} (h : QuP w B b room l v) (ln fr : Int) (hl : l.length ≤ 5000) :
    Calls Tryz.prog 64 #[.pointer (some ⟨b, 0, none⟩), .int .i64 ln, .int .i64 fr] w (GaveN w B b room l v (finP (l.map Ep.pl) ln fr)) := by
  rcases hp : l.findIdx? (fun y => isF ln fr y.pl) with _ | i
  · rw [finP_none (by rw [fin_find]; exact hp)]
    exact (fin_none h.bg ln fr hl hp).mono fun e w' ⟨he, hb⟩ => ⟨he, h.gave_same hb⟩
  · rw [finP_some (by rw [fin_find]; exact hp)]
    obtain ⟨x, hx, -, hi⟩ := find_at hp
    obtain ⟨g, cap, rfl, -⟩ := h.bg.one hx
    refine (fin_some h.bg ln fr hl hp hi).mono fun e w' ⟨he, hq⟩ => ⟨he, ?_⟩
    have := h.gaveOld hq (fun z hz => h.cp z (List.mem_of_mem_eraseIdx hz)) fun z hz hne => h.of_mem (List.mem_of_mem_eraseIdx hz) hne
    rw [map_erase] at this
    exact this

end Go.Proofs.YtpknfbgnclgpmaaGreatDoor.Qu
