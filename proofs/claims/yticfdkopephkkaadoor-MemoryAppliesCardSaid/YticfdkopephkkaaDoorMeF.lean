/-
  What Apply does, and New of a memory.
-/
import Derived.Test.YticfdkopephkkaaDoorMeE
import Derived.Laws.MakeOwn
namespace Go.Proofs.YticfdkopephkkaaDoor
open Go Go.RowKit

/-- The call's first four blocks. -/
structure H4 (w : World) (o0 o1 o2 o3 : Obj) (wr : World) : Prop where
  c0 : wr.heap[w.heap.size]? = some o0
  c1 : wr.heap[w.heap.size + 1]? = some o1
  c2 : wr.heap[w.heap.size + 2]? = some o2
  c3 : wr.heap[w.heap.size + 3]? = some o3
  bl : Below w.heap.size w wr
theorem H4.new (w : World) (o0 o1 o2 o3 : Obj) : H4 w o0 o1 o2 o3 ((((w.alloc o0).alloc o1).alloc o2).alloc o3) := by
  have s1 : (w.alloc o0).heap.size = w.heap.size + 1 := by simp
  have s2 : ((w.alloc o0).alloc o1).heap.size = w.heap.size + 2 := by simp
  have s3 : (((w.alloc o0).alloc o1).alloc o2).heap.size = w.heap.size + 3 := by simp
  have n0 := heap_alloc_new w o0
  have n1 := heap_alloc_new (w.alloc o0) o1
  have n2 := heap_alloc_new ((w.alloc o0).alloc o1) o2
  have n3 := heap_alloc_new (((w.alloc o0).alloc o1).alloc o2) o3
  rw [s1] at n1
  rw [s2] at n2
  rw [s3] at n3
  refine ⟨?_, ?_, ?_, n3, ((((Below.refl _ w).alloc (Nat.le_refl _) _).alloc (by omega) _).alloc (by omega) _).alloc (by omega) _⟩
  · rw [heap_alloc_old _ _ (by omega), heap_alloc_old _ _ (by omega), heap_alloc_old _ _ (by omega)]
    exact n0
  · rw [heap_alloc_old _ _ (by omega), heap_alloc_old _ _ (by omega)]
    exact n1
  · rw [heap_alloc_old _ _ (by omega)]
    exact n2
theorem H4.step {w wr wr' : World} {o0 o1 o2 o3 : Obj} (h : H4 w o0 o1 o2 o3 wr) (hb : Below wr.heap.size wr wr') : H4 w o0 o1 o2 o3 wr' :=
  ⟨(hb.block _ (lt_of_block h.c0)).trans h.c0, (hb.block _ (lt_of_block h.c1)).trans h.c1, (hb.block _ (lt_of_block h.c2)).trans h.c2, (hb.block _ (lt_of_block h.c3)).trans h.c3, bstep h.bl hb⟩
theorem H4.drew {w wr : World} {o0 o1 o2 o3 : Obj} (h : H4 w o0 o1 o2 o3 wr) : H4 w o0 o1 o2 o3 wr.drew := ⟨h.c0, h.c1, h.c2, h.c3, h.bl.drew⟩

/-- A word of a box is set anew. -/
theorem set_words {w : World} {b : Nat} {d : Wd} {t : TypeId} (h : w.heap[b]? = some (.cells (dcells d) t (0, 0))) (k : Nat) (hk : k < 8) (v : Int) : (w.setCell ⟨b, k, none⟩ (.int .i64 v)).heap[b]? = some (.cells (dcells (d.put k v)) t (0, 0)) := by
  rw [heap_setCell_same w b k _ _ _ h]
  rcases (show k = 0 ∨ k = 1 ∨ k = 2 ∨ k = 3 ∨ k = 4 ∨ k = 5 ∨ k = 6 ∨ k = 7 by omega) with rfl | rfl | rfl | rfl | rfl | rfl | rfl | rfl
  all_goals rfl
theorem word_cell (d : Wd) (k : Nat) (hk : k < 8) : (dcells d)[k]? = some (.int .i64 (d.at k)) := by
  rcases (show k = 0 ∨ k = 1 ∨ k = 2 ∨ k = 3 ∨ k = 4 ∨ k = 5 ∨ k = 6 ∨ k = 7 by omega) with rfl | rfl | rfl | rfl | rfl | rfl | rfl | rfl
  all_goals rfl

/-- What Apply gives. -/
def RetP (w : World) (d : Wd) (k n : Int) (e : Ending) (w' : World) : Prop := e = .returned (.tuple #[.agg (dcells d), .int .i64 k, .int .i64 n]) ∧ Below w.heap.size w w'
theorem apply_ret {w wr : World} {d : Wd} {k n : Int} {a : Act} {g : Nat} (hp : a.tmps.getD 6 undef = .pointer (some ⟨g, 0, none⟩)) (hk : a.tmps.getD 7 undef = .int .i64 k) (hn : a.tmps.getD 8 undef = .int .i64 n) (hd : a.defers = []) (hg : wr.heap[g]? = some (.cells (dcells d) 34 (0, 0))) (hb : Below w.heap.size w wr) :
    bodyPost Tryd.prog Tryd.f12 (RetP w d k n) Exit.ret a wr :=
  bodyPost_ret (v := .tuple #[.agg (dcells d), a.tmps.getD 7 undef, a.tmps.getD 8 undef]) (results_cell_three Tryd.results12 _ _ g 34 _ (0, 0) _ hp hg Tryd.underlying34 rfl (by kernel_rfl)) hd ⟨by rw [hk, hn], hb⟩

abbrev ccells (c : Cfg) : Array Value := #[.int .i64 c.co, .int .i64 c.ho, .int .i64 c.se, .int .i64 c.wa, .int .i64 c.wo, .int .i64 c.li, .int .i64 c.po, .int .i64 c.ms, .int .i64 c.bu, .int .i64 c.wb, .int .i64 c.r0, .int .i64 c.r1, .int .i64 c.r2]
abbrev H5 (w : World) (c : Cfg) (d : Wd) (k a v : Int) (wr : World) : Prop := H4 w (.cells (ccells c) 24) (.cells (dcells d) 34) (.cells #[.int .i64 k, .int .i64 a, .int .i64 v] 27) (.cells (dcells d0) 34) wr

set_option maxRecDepth 100000 in
set_option maxHeartbeats 2000000 in
theorem apply_bad1 (c : Cfg) (d : Wd) (x : Op) (w : World) (hc : c.fits) (hT : Tb w) (h : adOk c x.a = false) :
    Calls Tryd.prog 12 #[cv c, .agg (dcells d), ov x] w (RetP w d0 0 1) := by
  obtain ⟨k, a, v⟩ := x
  have H0 := Lib.hid (H4.new w (.cells (ccells c) 24) (.cells (dcells d) 34) (.cells #[.int .i64 k, .int .i64 a, .int .i64 v] 27) (.cells (dcells d0) 34))
  have HA := Lib.hid (fun w1 (hb : Below w.heap.size w w1) => addr_any c a w1 hc (hT.keeps hb))
  have e : adL c a = 0 ∧ adW c a = 0 ∧ adE c a = 1 := by simp at h; simp [adL, adW, adE, h]
  rw [e.1, e.2.1, e.2.2] at HA
  clear hc hT h e
  go_enter Tryd.func12, Tryd.ntmps12
  go_wp2_with (first
    | (go_at_call 10; refine (HA.out _ H0.out.bl).mono ?_; rintro e w1 ⟨rfl, hb1⟩; have H1 := Lib.hid (H0.out.step hb1))
    | ((with_reducible refine wpList_store_row (o := ⟨none, _, _, _, _, _⟩) rfl 34 (.tmp 6) (.tmp 34) rfl (w.heap.size + 3) (dcells d0) ?sx ?sy 34 ?old ?sg ?si ?so ?s1 ?_); (case sx => rfl); (case sy => rfl); (case old => exact dcells d0); (case sg => exact H1.out.c3); (case si => kernel_rfl); (case so => rfl); (case s1 => kernel_rfl)))
  exact apply_ret rfl rfl rfl rfl (setRow_heap _ _ _ _ _ _ H1.out.c3) (below_setRow H1.out.bl (by omega) _)

set_option maxRecDepth 100000 in
set_option maxHeartbeats 2000000 in
theorem apply_bad2 (c : Cfg) (d : Wd) (x : Op) (w : World) (hc : c.fits) (hT : Tb w) (h : mayB x = false ∨ x.k = 4) :
    Calls Tryd.prog 12 #[cv c, .agg (dcells d), ov x] w (RetP w d0 0 1) := by
  rcases Bool.eq_false_or_eq_true (adOk c x.a) with ha | ha
  · obtain ⟨k, a, v⟩ := x
    have H0 := Lib.hid (H4.new w (.cells (ccells c) 24) (.cells (dcells d) 34) (.cells #[.int .i64 k, .int .i64 a, .int .i64 v] 27) (.cells (dcells d0) 34))
    have HA := Lib.hid (fun w1 (hb : Below w.heap.size w w1) => addr_any c a w1 hc (hT.keeps hb))
    have e : adE c a = 0 := by simp at ha; simp [adE, ha]
    rw [e] at HA
    have HM := Lib.hid (fun w => may_any ⟨k, a, v⟩ w)
    generalize adL c a = al at *
    generalize adW c a = aw at *
    clear hc hT ha e
    rcases Bool.eq_false_or_eq_true (mayB ⟨k, a, v⟩) with hm | hm
    · have hk : (k == 4) = true := by simpa [hm] using h
      rw [hm] at HM
      clear h hm
      go_enter Tryd.func12, Tryd.ntmps12
      go_wp2_with (first
        | (go_at_call 10; refine (HA.out _ H0.out.bl).mono ?_; rintro e w1 ⟨rfl, hb1⟩; have H1 := Lib.hid (H0.out.step hb1); have hcc := blk_cell H1.out.c2)
        | (go_at_call 11; refine (HM.out _).mono ?_; rintro e w2 ⟨rfl, hb2⟩; have H2 := Lib.hid (H1.out.step hb2); have hcc2 := blk_cell H2.out.c2)
        | ((with_reducible refine wpList_store_row (o := ⟨none, _, _, _, _, _⟩) rfl 34 (.tmp 6) (.tmp 34) rfl (w.heap.size + 3) (dcells d0) ?sx ?sy 34 ?old ?sg ?si ?so ?s1 ?_); (case sx => rfl); (case sy => rfl); (case old => exact dcells d0); (case sg => exact H2.out.c3); (case si => kernel_rfl); (case so => rfl); (case s1 => kernel_rfl)))
      exact apply_ret rfl rfl rfl rfl (setRow_heap _ _ _ _ _ _ H2.out.c3) (below_setRow H2.out.bl (by omega) _)
    · rw [hm] at HM
      clear h hm
      go_enter Tryd.func12, Tryd.ntmps12
      go_wp2_with (first
        | (go_at_call 10; refine (HA.out _ H0.out.bl).mono ?_; rintro e w1 ⟨rfl, hb1⟩; have H1 := Lib.hid (H0.out.step hb1); have hcc := blk_cell H1.out.c2)
        | (go_at_call 11; refine (HM.out _).mono ?_; rintro e w2 ⟨rfl, hb2⟩; have H2 := Lib.hid (H1.out.step hb2); have hcc2 := blk_cell H2.out.c2)
        | ((with_reducible refine wpList_store_row (o := ⟨none, _, _, _, _, _⟩) rfl 34 (.tmp 6) (.tmp 34) rfl (w.heap.size + 3) (dcells d0) ?sx ?sy 34 ?old ?sg ?si ?so ?s1 ?_); (case sx => rfl); (case sy => rfl); (case old => exact dcells d0); (case sg => exact H2.out.c3); (case si => kernel_rfl); (case so => rfl); (case s1 => kernel_rfl)))
      exact apply_ret rfl rfl rfl rfl (setRow_heap _ _ _ _ _ _ H2.out.c3) (below_setRow H2.out.bl (by omega) _)
  · exact apply_bad1 c d x w hc hT ha

set_option maxRecDepth 100000 in
set_option maxHeartbeats 2000000 in
theorem apply_good (c : Cfg) (d : Wd) (x : Op) (w : World) (hc : c.fits) (hT : Tb w) (ha : adOk c x.a = true) (hm : mayB x = true) (hk : x.k ≠ 4) :
    Calls Tryd.prog 12 #[cv c, .agg (dcells d), ov x] w (RetP w (d.put (x.a % c.wo).toNat (lft (d.at (x.a % c.wo).toNat) x)) (tld (d.at (x.a % c.wo).toNat) x) 0) := by
  obtain ⟨k, a, v⟩ := x
  have H0 := Lib.hid (H4.new w (.cells (ccells c) 24) (.cells (dcells d) 34) (.cells #[.int .i64 k, .int .i64 a, .int .i64 v] 27) (.cells (dcells d0) 34))
  have HA := Lib.hid (fun w1 (hb : Below w.heap.size w w1) => addr_any c a w1 hc (hT.keeps hb))
  have hb := sz_bound c (ok_of_adOk ha).1
  obtain ⟨m, hmm, hm8⟩ : ∃ m : Nat, a % c.wo = m ∧ m < 8 := ⟨(a % c.wo).toNat, by
    have := Int.emod_nonneg a (show c.wo ≠ 0 by omega)
    omega, by
    have := Int.emod_lt_of_pos a (show 0 < c.wo by omega)
    omega⟩
  have e : adE c a = 0 ∧ adW c a = m := by
    have ha' : adOk c a = true := ha
    refine ⟨by simp [adE, ha'], ?_⟩
    rw [← hmm]
    simp [adW, ha']
  rw [e.1, e.2] at HA
  have HM := Lib.hid (fun w => may_any ⟨k, a, v⟩ w)
  rw [hm] at HM
  have HD := Lib.hid (fun w => done_any (d.at m) ⟨k, a, v⟩ w)
  have hk' : (k == 4) = false := by simpa using hk
  show Calls _ _ _ _ (RetP w (d.put (a % c.wo).toNat (lft (d.at (a % c.wo).toNat) ⟨k, a, v⟩)) (tld (d.at (a % c.wo).toNat) ⟨k, a, v⟩) 0)
  rw [hmm, Int.toNat_natCast]
  generalize adL c a = al at *
  generalize lft (d.at m) ⟨k, a, v⟩ = lf at *
  generalize tld (d.at m) ⟨k, a, v⟩ = tl at *
  have hm0 : (0 : Int) ≤ (m : Int) := by omega
  have hm7 : (m : Int) < 8 := by omega
  have hcm := word_cell d m hm8
  have HMM := Lib.hid hcm
  have HSW := Lib.hid (fun (w1 : World) (b : Nat) (h : w1.heap[b]? = some (.cells (dcells d) 34 (0, 0))) => set_words h m hm8 lf)
  obtain ⟨D, hD⟩ : ∃ D, D = d.put m lf := ⟨_, rfl⟩
  rw [← hD] at HSW ⊢
  generalize d.at m = dv at *
  clear hc hT ha hm hk hb e hmm hcm hD
  go_enter Tryd.func12, Tryd.ntmps12
  go_wp2_with (first
    | (go_at_call 10; refine (HA.out _ H0.out.bl).mono ?_; rintro e w1 ⟨rfl, hb1⟩; have H1 := Lib.hid (H0.out.step hb1); have hcc := blk_cell H1.out.c2)
    | (go_at_call 11; refine (HM.out _).mono ?_; rintro e w2 ⟨rfl, hb2⟩; have H2 := Lib.hid (H1.out.step hb2); have hcc2 := blk_cell H2.out.c2))
  clear hcc
  have hcm := (blk_cell H2.out.c1 m).trans HMM.out
  go_region_held3 (fun w' => (∀ o, w'.cell? ⟨w.heap.size + 2, o, none⟩ = (#[Value.int .i64 k, .int .i64 a, .int .i64 v])[o]?) ∧ w'.cell? ⟨w.heap.size + 1, m, none⟩ = some (.int .i64 dv))
    (first | exact ⟨blk_cell H3.out.c2, (blk_cell H3.out.c1 m).trans HMM.out⟩ | exact ⟨hcc2, hcm⟩ | go_keep)
    (first
      | (go_at_call 17; refine (HD.out _).mono ?_; rintro e w3 ⟨rfl, hb3⟩; have H3 := (by first | exact Lib.hid (H2.out.step hb3) | exact Lib.hid (H2.out.drew.step hb3)); clear hb3))
  have q1 := (blk_cell H3.out.c1 m).trans HMM.out
  have q2 := blk_free H3.out.c1 m
  have q3 := HSW.out _ _ H3.out.c1
  have q4 : (w3.setCell ⟨w.heap.size + 1, m, none⟩ (.int .i64 lf)).heap[w.heap.size + 3]? = some (.cells (dcells d0) 34 (0, 0)) := (heap_setCell_other _ _ _ _ (by show w.heap.size + 3 ≠ w.heap.size + 1; omega)).trans H3.out.c3
  have q5 : Below w.heap.size w (w3.setCell ⟨w.heap.size + 1, m, none⟩ (.int .i64 lf)) := H3.out.bl.trans ⟨rfl, rfl, rfl, by simp, fun j hj => heap_setCell_other _ _ _ _ (by show j ≠ w.heap.size + 1; omega)⟩
  go_wp2_with (first
    | ((with_reducible refine wpList_load_row (o := ⟨some 46, _, _, _, _, _⟩) rfl 34 (.tmp 4) rfl (w.heap.size + 1) ?lx 34 (dcells D) (0, 0) _ ?lg Tryd.underlying34 ?ld ?li ?_); (case lx => rfl); (case lg => exact q3); (case ld => rfl); (case li => kernel_rfl))
    | ((with_reducible refine wpList_store_row (o := ⟨none, _, _, _, _, _⟩) rfl 34 (.tmp 6) (.tmp 46) rfl (w.heap.size + 3) (dcells D) ?sx ?sy 34 ?old ?sg ?si ?so ?s1 ?_); (case sx => rfl); (case sy => rfl); (case old => exact dcells d0); (case sg => exact q4); (case si => kernel_rfl); (case so => rfl); (case s1 => kernel_rfl)))
  exact apply_ret rfl rfl rfl rfl (setRow_heap _ _ _ _ _ _ q4) (below_setRow q5 (by omega) _)

/-- Apply. -/
theorem apply_any (c : Cfg) (d : Wd) (x : Op) (w : World) (hc : c.fits) (hT : Tb w) :
    Calls Tryd.prog 12 #[cv c, .agg (dcells d), ov x] w (RetP w (apP c d x).1 (apP c d x).2.1 (apP c d x).2.2) := by
  by_cases h : adOk c x.a = true ∧ mayB x = true ∧ x.k ≠ 4
  · have e : apP c d x = _ := if_pos h
    rw [e]
    exact apply_good c d x w hc hT h.1 h.2.1 h.2.2
  · have e : apP c d x = _ := if_neg h
    rw [e]
    rcases Bool.eq_false_or_eq_true (adOk c x.a) with ha | ha
    · refine apply_bad2 c d x w hc hT ?_
      rcases Bool.eq_false_or_eq_true (mayB x) with hm | hm
      · exact .inr (Classical.byContradiction fun q => h ⟨ha, hm, q⟩)
      · exact .inl hm
    · exact apply_bad1 c d x w hc hT ha

end Go.Proofs.YticfdkopephkkaaDoor
