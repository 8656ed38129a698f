/-
  What Free, fits and New of an array do, one contract each.
-/
import Derived.Test.YtldbepaclddgmaaDoorArC
import Derived.Laws.MakeOwn
namespace Go.Proofs.YtldbepaclddgmaaDoor
open Go Go.RowKit

set_option maxHeartbeats 2000000 in
theorem free_yes {w : World} {b g : Nat} {c : Cfg} {L : List Wy} (h : Ar w b g c L) (hT : Tb w) (line : Int) (hl : lnOk c line = true) :
    Calls Tryd.prog 15 #[.pointer (some ⟨b, 0, none⟩), .int .i64 line] w fun e w' => e = .returned (.int .i64 (oi (fre c L line))) ∧ Below w.heap.size w w' := by
  have HS := Lib.hid (setOf_yes h hT line hl)
  have hg := h.gl
  have HL := Lib.hid (h.part line)
  have hlen := h.sz.pt_len line
  have hw := ok_ways h.sz.ok
  have hf : fre c L line = (pt c L line).findIdx? (fun x => !tk x) := by unfold fre; rw [if_pos hl]
  rw [hf]
  unfold lset at HS
  rw [← hlen] at HS
  have hn : (pt c L line).length ≤ 5000 := by omega
  generalize soN c line = so at *
  generalize pt c L line = l at *
  clear h hT hl hf hlen hw
  go_enter Tryd.func15, Tryd.ntmps15
  go_wp2_with (go_at_call 27; refine HS.out.mono ?_; rintro e w0 ⟨rfl, hb0⟩)
  go_loopw [11] (fun i wr => ∃ k : Nat, k ≤ l.length ∧ i = .int .i64 k ∧ Hid (∀ (j : Nat) (x : Wy), j < k → l[j]? = some x → (!tk x) = false) ∧ Below w.heap.size w wr) (fun i _ => l.length - (intOf i).toNat)
  case atStart => exact ⟨0, by omega, rfl, Lib.hid (fun j x hj => by omega), hb0⟩
  case round =>
    obtain ⟨k, hk, rfl, HJ, hb⟩ := hrel
    by_cases hlt : k < l.length
    · obtain ⟨x, hx⟩ : ∃ x, l[k]? = some x := ⟨_, List.getElem?_eq_getElem hlt⟩
      have HR := Lib.hid (HL.out.below hg hb k x hx)
      have HX := Lib.hid hx
      have hb1 : ∀ o, Below w.heap.size w (wr.alloc o) := fun o => hb.alloc hb.size _
      clear hx
      go_wp2_with (first
        | ((with_reducible refine wpList_load_mid (op := ⟨some 15, _, _, _, _, _⟩) rfl 43 (.tmp 14) rfl g (so * 11 + k * 11) ?lx (yc x) _ ?lc Tryd.underlying43 ?ld ?li ?_); (case lx => rfl); (case lc => exact HR.out); (case ld => rfl); (case li => kernel_rfl))
        | ((with_reducible refine wpList_store_row (o := ⟨none, _, _, _, _, _⟩) rfl 43 (.tmp 6) (.tmp 15) rfl wr.heap.size (ycells x) ?sx ?sy 43 ?old ?sg ?si ?so ?s1 ?_); (case sx => rfl); (case sy => rfl); (case old => exact ycells y0); (case sg => exact heap_alloc_new wr _); (case si => kernel_rfl); (case so => rfl); (case s1 => kernel_rfl))
        | ((with_reducible refine wpList_load_row (o := ⟨some 16, _, _, _, _, _⟩) rfl 43 (.tmp 6) rfl wr.heap.size ?lx 43 (ycells x) (0, 0) _ ?lg Tryd.underlying43 ?ld ?li ?_); (case lx => rfl); (case lg => exact setRow_heap _ _ _ _ _ _ (heap_alloc_new wr _)); (case ld => rfl); (case li => kernel_rfl))
        | (go_at_call 29; refine (taken_any x _).mono ?_; rintro e w1 ⟨rfl, hbt⟩))
      · have h : (!tk x) = true := by assumption
        go_ret
        exact ⟨ret_int (by rw [find_some HX.out h HJ.out]; rfl), bstep (below_setRow (hb1 _) hb.size _) hbt⟩
      · have h : (!tk x) = false := by assumption
        have HK : Hid (∀ (j : Nat) (y : Wy), j < k + 1 → l[j]? = some y → (!tk y) = false) := Lib.hid (fun j y hj hy => by
          by_cases e : j = k
          · subst e
            obtain rfl : x = y := Option.some.inj (HX.out.symm.trans hy)
            exact h
          · exact HJ.out j y (by omega) hy)
        have hB := bstep (below_setRow (hb1 _) hb.size _) hbt
        clear h
        go_roundw
        case rel => exact ⟨k + 1, by omega, by go_num, HK, hB⟩
        case measure => simp [intOf]; omega
    · have HK : Hid (oi (l.findIdx? (fun x => !tk x)) = -1) := Lib.hid (by rw [find_none (fun j x hx => HJ.out j x (by have := (List.getElem?_eq_some_iff.1 hx).1; omega) hx)]; rfl)
      go_wp2
      go_ret
      exact ⟨ret_int HK.out.symm, hb⟩
theorem free_no {w : World} {b g : Nat} {c : Cfg} {L : List Wy} (h : Ar w b g c L) (hT : Tb w) (line : Int) (hl : lnOk c line = false) :
    Calls Tryd.prog 15 #[.pointer (some ⟨b, 0, none⟩), .int .i64 line] w fun e w' => e = .returned (.int .i64 (-1)) ∧ Below w.heap.size w w' := by
  have HS := Lib.hid (setOf_no h hT line hl)
  clear h hT hl
  go_enter Tryd.func15, Tryd.ntmps15
  go_wp2_with (go_at_call 27; refine HS.out.mono ?_; rintro e w0 ⟨rfl, hb0⟩)
  go_loopw [11] (fun i wr => i = .int .i64 0 ∧ w0 = wr) (fun i _ => 0)
  case atStart => exact ⟨rfl, rfl⟩
  case round =>
    obtain ⟨rfl, rfl⟩ := hrel
    go_wp2
    go_ret
    exact ⟨rfl, hb0⟩

theorem slice_from (b N : Nat) (h1 : 1 ≤ N) (h8 : N ≤ 8) (w : World) : (Instr.sliceAt 35 (.pointer (some ⟨b, 0, none⟩)) (some (.int .i64 (N : Int))) none none).run Tryd.prog w = .ok (.slice (some ⟨b, if N = 8 then 0 else N, none⟩) (8 - N) (8 - N)) w := by
  rcases (show N = 1 ∨ N = 2 ∨ N = 3 ∨ N = 4 ∨ N = 5 ∨ N = 6 ∨ N = 7 ∨ N = 8 by omega) with rfl | rfl | rfl | rfl | rfl | rfl | rfl | rfl
  all_goals kernel_rfl
theorem word_cell (d : Wd) (k : Nat) (hk : k < 8) : (dcells d)[k]? = some (.int .i64 (d.at k)) := by
  rcases (show k = 0 ∨ k = 1 ∨ k = 2 ∨ k = 3 ∨ k = 4 ∨ k = 5 ∨ k = 6 ∨ k = 7 by omega) with rfl | rfl | rfl | rfl | rfl | rfl | rfl | rfl
  all_goals rfl
theorem wOk_yes {c : Cfg} {d : Wd} (N : Nat) (hN : c.wo = N) (h : ∀ j, N ≤ j → j < 8 → (d.at j != 0) = false) : wOk c d = true := by
  unfold wOk
  rw [List.all_eq_true]
  intro k hk
  have hk8 := List.mem_range.1 hk
  by_cases hlt : k < N
  · simp; omega
  · have := h k (by omega) hk8
    simp at this ⊢
    exact .inr this
theorem wOk_no {c : Cfg} {d : Wd} (N k : Nat) (hN : c.wo = N) (hk : N ≤ k) (h8 : k < 8) (h : (d.at k != 0) = true) : wOk c d = false := by
  rcases Bool.eq_false_or_eq_true (wOk c d) with h' | h'
  · unfold wOk at h'
    rw [List.all_eq_true] at h'
    have := h' k (List.mem_range.2 h8)
    simp at this h
    omega
  · exact h'

set_option maxHeartbeats 1000000 in
theorem fits_any {w : World} {b g : Nat} {c : Cfg} {L : List Wy} (h : Ar w b g c L) (d : Wd) :
    Calls Tryd.prog 34 #[.pointer (some ⟨b, 0, none⟩), .agg (dcells d)] w fun e w' => e = .returned (.bool (wOk c d)) ∧ Below w.heap.size w w' := by
  have hw := (ok_ways h.sz.ok).2.2.1
  obtain ⟨N, hN⟩ : ∃ N : Nat, c.wo = N := ⟨c.wo.toNat, by omega⟩
  have h4 := h.hd 4
  simp at h4
  rw [hN] at h4
  have h4' : ∀ o, (w.alloc o).cell? ⟨b, 4, none⟩ = some (.int .i64 (N : Int)) := fun o => Lib.cell?_alloc_some o h4
  have hn1 : 1 ≤ N := by omega
  have hn8 : N ≤ 8 := by omega
  have hsl := slice_from w.heap.size N hn1 hn8
  have HCELL : Hid (∀ k, k < 8 - N → (w.alloc (.cells (dcells d) 35)).cell? ⟨w.heap.size, (if N = 8 then 0 else N) + k, none⟩ = some (.int .i64 (d.at (N + k)))) := Lib.hid (fun k hk => by
    rw [if_neg (by omega), World.cell?_alloc_mark w _ 35 (0, 0) (N + k)]
    exact word_cell d (N + k) (by omega))
  have HB : Hid (Below w.heap.size w (w.alloc (.cells (dcells d) 35))) := Lib.hid ((Below.refl _ _).alloc (Nat.le_refl _) _)
  have HN := Lib.hid hN
  generalize (if N = 8 then 0 else N) = o at *
  clear h h4 hw hN
  go_enter Tryd.func34, Tryd.ntmps34
  go_wp2
  go_loopw [14] (fun i wr => ∃ k : Nat, k ≤ 8 - N ∧ i = .int .i64 k ∧ Hid (∀ j, N ≤ j → j < N + k → (d.at j != 0) = false) ∧ w.alloc (.cells (dcells d) 35) = wr) (fun i _ => (8 - N) - (intOf i).toNat)
  case atStart => exact ⟨0, by omega, rfl, Lib.hid (fun j h1 h2 => by omega), rfl⟩
  case round =>
    obtain ⟨k, hk, rfl, HJ, rfl⟩ := hrel
    by_cases hlt : k < 8 - N
    · have hcell := HCELL.out k hlt
      rcases Bool.eq_false_or_eq_true (d.at (N + k) != 0) with h | h
      · have HW : Hid (wOk c d = false) := Lib.hid (wOk_no N (N + k) HN.out (by omega) (by omega) h)
        generalize d.at (N + k) = v at hcell h
        go_wp2
        go_ret
        exact ⟨ret_bool HW.out.symm, HB.out⟩
      · have HK : Hid (∀ j, N ≤ j → j < N + (k + 1) → (d.at j != 0) = false) := Lib.hid (fun j h1 h2 => by
          by_cases e : j = N + k
          · rw [e]
            exact h
          · exact HJ.out j h1 (by omega))
        generalize d.at (N + k) = v at hcell h
        go_wp2
        go_roundw
        case rel => exact ⟨k + 1, by omega, by go_num, HK, trivial⟩
        case measure => simp [intOf]; omega
    · have HW : Hid (wOk c d = true) := Lib.hid (wOk_yes N HN.out fun j h1 h2 => HJ.out j h1 (by omega))
      go_wp2
      go_ret
      exact ⟨ret_bool HW.out.symm, HB.out⟩

end Go.Proofs.YtldbepaclddgmaaDoor
