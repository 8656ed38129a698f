/-
  A set with a sharer more: with, Add; Clear.
-/
import Derived.Test.YtfnemldjhfcalaaShD
namespace Go.Proofs.Ytfnemldjhfcalaa
open Go Go.RowKit Go.Sort

theorem rises_all {c : Int} : ∀ {l : List Int} {a : Int}, risesB c a l = true → l.Pairwise (· < ·) ∧ ∀ y ∈ l, a ≤ y ∧ 0 ≤ y ∧ y < c
  | [], _, _ => ⟨List.Pairwise.nil, fun y hy => by cases hy⟩
  | x :: l, a, h => by
    simp only [risesB, hasB, Bool.and_eq_true, Bool.not_eq_true', decide_eq_false_iff_not, decide_eq_true_eq] at h
    obtain ⟨⟨h1, h2, h3⟩, h4⟩ := h
    obtain ⟨ih, ia⟩ := rises_all h4
    refine ⟨List.Pairwise.cons (fun y hy => by have := (ia y hy).1; omega) ih, fun y hy => ?_⟩
    rcases List.mem_cons.1 hy with rfl | hy
    · omega
    · have := ia y hy
      omega
theorem may_rises {c m : Int} {l : List Int} {al : Bool} (h : mayB c m l al = true) : risesB c 0 l = true := by
  simp only [mayB, Bool.and_eq_true] at h
  exact h.2
theorem pair_le {l : List Int} (h : l.Pairwise (· < ·)) : l.Pairwise (· ≤ ·) := h.imp fun h => by omega

/-- The cells of a set that is new. -/
abbrev zc : Array Value := #[.int .i64 0, .int .i64 0, .slice none 0 0, .bool false]

set_option maxHeartbeats 2000000 in
theorem with_any (s : St) (p : Option Addr) (cap : Nat) (x : Int) (w : World) (h : NumsIn w p s.l) (hl : s.l.length ≤ 100) (hs : s.l.Pairwise (· ≤ ·)) :
    Calls Try.prog 52 #[.agg (sval s p cap), .int .i64 x] w (Gave1 w (withS s x)) := by
  have K := H2.box w (sval s p cap) zc 24 24
  have H := Lib.hid h
  have HS := Lib.hid hs
  clear h hs
  have hz0 : ((w.alloc (.cells (sval s p cap) 24)).alloc (.cells zc 24)).heap.size = w.heap.size + 2 := by simp
  have HZ := Lib.hid hz0
  clear hz0
  rcases Bool.eq_false_or_eq_true (toldB s.l s.al x) with ht | ht
  · have HT := Lib.hid ht
    have e : withS s x = s := by unfold withS; rw [if_pos ht]
    rw [e]
    clear ht e
    go_enter Try.func52, Try.ntmps52
    go_wp2_with (fail)
    refine (clone_any p cap s.l _ (by omega) (H.out.step K.below)).mono ?_
    rintro e w1 ⟨q, c', rfl, hown, hb1⟩
    rw [HZ.out] at hown
    obtain ⟨_, _, e1, hin⟩ := own_in hown
    cases e1
    have hfr : ∀ a, q = some a → w.heap.size + 2 ≤ a.block := fun a ha => (hown.lt a.block (by rw [ha]; rfl)).1
    have K2 := K.step hb1
    have hc2 := K2.cellsA
    have hf2 := blk_free K2.a 2
    have K3 : H2 w (sval s q c') zc 24 24 (w1.setCell ⟨w.heap.size, 2, none⟩ (.slice q s.l.length c')) := K2.setA 2 _
    have HN := Lib.hid (hin.one w.heap.size 2 (fun a ha => by have := hfr a ha; omega) (.slice q s.l.length c'))
    have HF := Lib.hid hfr
    have hc3 := K3.cellsA
    clear K hb1 hown hin hfr
    go_wp2_with (fail)
    refine (told_any s.c s.m q c' s.l s.al x _ (by omega) HN.out).mono ?_
    rintro e w4 ⟨rfl, hb4⟩
    rw [HT.out]
    have K4 := K3.step hb4
    have HN4 := Lib.hid (HN.out.step hb4)
    have hc4 := K4.cellsA
    clear hc2 hf2 hc3 K2 K3 hb4 HN
    go_wp2_with ((with_reducible refine wpList_store_row (o := ⟨none, _, _, _, _, _⟩) rfl 24 (.tmp 4) (.tmp 14) rfl (w.heap.size + 1) (sval s q c') ?sx ?sy 24 zc ?sg ?si ?so ?s1 ?_); (case sx => rfl); (case sy => rfl); (case sg => exact K4.b); (case si => kernel_rfl); (case so => rfl); (case s1 => kernel_rfl))
    exact gave1_ret rfl Try.results52 rfl rfl (setRow_heap _ _ _ _ _ _ K4.b) (HN4.out.row _ (fun a ha => by have := HF.out a ha; omega) _) (below_setRow K4.below (by omega) _) (fun a ha => by have := HF.out a ha; omega)
  · have HT := Lib.hid ht
    have e : withS s x = if (s.l.length : Int) = s.m then ⟨s.c, s.m, [], true⟩ else ⟨s.c, s.m, insAt s.l (less s.l x) x, s.al⟩ := by unfold withS; rw [if_neg (by rw [ht]; simp)]
    rw [e]
    clear ht e
    by_cases hm : (s.l.length : Int) = s.m
    · rw [if_pos hm]
      have hm' : ((s.l.length : Int) == s.m) = true := by simpa using hm
      clear hm
      go_enter Try.func52, Try.ntmps52
      go_wp2_with (fail)
      refine (clone_any p cap s.l _ (by omega) (H.out.step K.below)).mono ?_
      rintro e w1 ⟨q, c', rfl, hown, hb1⟩
      rw [HZ.out] at hown
      obtain ⟨_, _, e1, hin⟩ := own_in hown
      cases e1
      have hfr : ∀ a, q = some a → w.heap.size + 2 ≤ a.block := fun a ha => (hown.lt a.block (by rw [ha]; rfl)).1
      have K2 := K.step hb1
      have hc2 := K2.cellsA
      have hf2 := blk_free K2.a 2
      have K3 : H2 w (sval s q c') zc 24 24 (w1.setCell ⟨w.heap.size, 2, none⟩ (.slice q s.l.length c')) := K2.setA 2 _
      have HN := Lib.hid (hin.one w.heap.size 2 (fun a ha => by have := hfr a ha; omega) (.slice q s.l.length c'))
      have hc3 := K3.cellsA
      clear K hb1 hown hin hfr
      go_wp2_with (fail)
      refine (told_any s.c s.m q c' s.l s.al x _ (by omega) HN.out).mono ?_
      rintro e w4 ⟨rfl, hb4⟩
      rw [HT.out]
      have K4 := K3.step hb4
      have hc4 := K4.cellsA
      clear hc2 hf2 hc3 K2 K3 hb4 HN
      go_wp2_with ((with_reducible refine wpList_store_row (o := ⟨none, _, _, _, _, _⟩) rfl 24 (.tmp 4) (.tmp 25) rfl (w.heap.size + 1) (sv s.c s.m none 0 0 true) ?sx ?sy 24 zc ?sg ?si ?so ?s1 ?_); (case sx => rfl); (case sy => rfl); (case sg => exact K4.b); (case si => kernel_rfl); (case so => rfl); (case s1 => kernel_rfl))
      exact gave1_ret (s := ⟨s.c, s.m, [], true⟩) rfl Try.results52 rfl rfl (setRow_heap _ _ _ _ _ _ K4.b) (NumsIn.nil _ _) (below_setRow K4.below (by omega) _) (fun a ha => by cases ha)
    · rw [if_neg hm]
      have hm' : ((s.l.length : Int) == s.m) = false := by simpa using hm
      clear hm
      have hle : less s.l x ≤ s.l.length := List.countP_le_length
      have hil := insAt_len s.l (less s.l x) x hle
      have HI := Lib.hid hil
      clear hil
      go_enter Try.func52, Try.ntmps52
      go_wp2_with (fail)
      refine (clone_any p cap s.l _ (by omega) (H.out.step K.below)).mono ?_
      rintro e w1 ⟨q, c', rfl, hown, hb1⟩
      rw [HZ.out] at hown
      obtain ⟨_, _, e1, hin⟩ := own_in hown
      cases e1
      have hfr : ∀ a, q = some a → w.heap.size + 2 ≤ a.block := fun a ha => (hown.lt a.block (by rw [ha]; rfl)).1
      have K2 := K.step hb1
      have hc2 := K2.cellsA
      have hf2 := blk_free K2.a 2
      have K3 : H2 w (sval s q c') zc 24 24 (w1.setCell ⟨w.heap.size, 2, none⟩ (.slice q s.l.length c')) := K2.setA 2 _
      have hown3 : (w1.setCell ⟨w.heap.size, 2, none⟩ (.slice q s.l.length c')).ownsRow (w.heap.size + 2) 3 1 (.slice q s.l.length c') s.l.length (ints s.l) := own_block hown fun k hk => heap_setCell_other _ _ _ _ (by have := (hown.lt k hk).1; simp only; omega)
      obtain ⟨_, _, e1, hin3⟩ := own_in hown3
      cases e1
      have HN := Lib.hid hin3
      have HW := Lib.hid hown3
      have HF := Lib.hid hfr
      have hc3 := K3.cellsA
      clear K hb1 hown hin hfr hin3 hown3
      go_wp2_with (fail)
      refine (told_any s.c s.m q c' s.l s.al x _ (by omega) HN.out).mono ?_
      rintro e w4 ⟨rfl, hb4⟩
      rw [HT.out]
      have K4 := K3.step hb4
      have HN4 := Lib.hid (HN.out.step hb4)
      have HW4 := Lib.hid (own_block HW.out fun k hk => hb4.block k (HW.out.lt k hk).2)
      have hc4 := K4.cellsA
      clear hc2 hf2 hc3 K2 K3 hb4 HN HW
      go_wp2_with (fail)
      refine (search_any q c' s.l x _ (by omega) HN4.out HS.out).mono ?_
      rintro e w5 ⟨rfl, n5, rfl⟩
      have hbA : Below w4.heap.size w4 ((w4.drewN n5).alloc (.cells #[.int .i64 x] 3)) := (below_drewN (Below.refl _ w4) n5).alloc (by simp) _
      have hd5 : ∀ o, (w4.drewN n5).cell? ⟨w.heap.size, o, none⟩ = (sval s q c')[o]? := hc4
      have K5 := K4.step hbA
      have HW5 := Lib.hid (own_block HW4.out fun k hk => hbA.block k (HW4.out.lt k hk).2)
      have HV : Hid (((w4.drewN n5).alloc (.cells #[.int .i64 x] 3)).heap[w4.heap.size]? = some (.cells #[.int .i64 x] 3 (0, 0))) := Lib.hid (heap_alloc_new (w4.drewN n5) _)
      have HLT := Lib.hid (fun k hk => (HW4.out.lt k hk).2)
      have HSZ : Hid (w.heap.size + 2 ≤ ((w4.drewN n5).alloc (.cells #[.int .i64 x] 3)).heap.size) := Lib.hid (by have := lt_of_block K5.b; omega)
      have hc5 := K5.cellsA
      clear hbA hc4 K4 HN4 HW4
      go_wp2_with (fail)
      refine (insert_any HW5.out (less s.l x) x w4.heap.size hle (by omega) HV.out (fun g hg => by have := HLT.out g.block (by rw [hg]; rfl); omega) HSZ.out).mono ?_
      rintro e w6 ⟨q', c6, rfl, hin6, hb6, hfr6⟩
      have K6 := K5.past hb6
      have hc6 := K6.cellsA
      have hf6 := blk_free K6.a 2
      have K7 : H2 w (sv s.c s.m q' (s.l.length + 1) c6 s.al) zc 24 24 (w6.setCell ⟨w.heap.size, 2, none⟩ (.slice q' (s.l.length + 1) c6)) := K6.setA 2 _
      have HN7 := Lib.hid (hin6.one w.heap.size 2 (fun a ha => by have := hfr6 a ha; omega) (.slice q' (s.l.length + 1) c6))
      have hc7 := K7.cellsA
      have HF6 := Lib.hid hfr6
      clear hfr6 hin6 hb6 hc5 hd5 K5 HW5 HV HLT HSZ
      go_wp2_with ((with_reducible refine wpList_store_row (o := ⟨none, _, _, _, _, _⟩) rfl 24 (.tmp 4) (.tmp 40) rfl (w.heap.size + 1) (sv s.c s.m q' (s.l.length + 1) c6 s.al) ?sx ?sy 24 zc ?sg ?si ?so ?s1 ?_); (case sx => rfl); (case sy => rfl); (case sg => exact K7.b); (case si => kernel_rfl); (case so => rfl); (case s1 => kernel_rfl))
      exact gave1_ret (s := ⟨s.c, s.m, insAt s.l (less s.l x) x, s.al⟩) HI.out Try.results52 rfl rfl (setRow_heap _ _ _ _ _ _ K7.b) (HN7.out.row _ (fun a ha => by have := HF6.out a ha; omega) _) (below_setRow K7.below (by omega) _) (fun a ha => by have := HF6.out a ha; omega)

end Go.Proofs.Ytfnemldjhfcalaa
