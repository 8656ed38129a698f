/-
  The document's out and Finish.
-/
import Derived.Test.YtnpbbkiojoafbaaQuX
namespace Go.Proofs.Ytnpbbkiojoafbaa
open Go Go.RowKit

/-- What is kept of the first k. -/
def keptE (l : List Ep) (i k : Nat) : List Ep := (l.take k).eraseIdx i
theorem kept_ne {l : List Ep} {i k : Nat} {x : Ep} (hx : l[k]? = some x) (h : k ≠ i) : keptE l i (k + 1) = keptE l i k ++ [x] := by
  have hk := (List.getElem?_eq_some_iff.1 hx).1
  have e1 : (l.take k).length = k := by rw [List.length_take]; omega
  unfold keptE
  rw [List.take_add_one, hx]
  show ((l.take k) ++ [x]).eraseIdx i = _
  rcases Nat.lt_or_ge i k with h1 | h1
  · rw [List.eraseIdx_append_of_lt_length (by rw [e1]; exact h1)]
  · rw [List.eraseIdx_of_length_le (by rw [List.length_append, e1]; simp; omega), List.eraseIdx_of_length_le (by rw [e1]; omega)]
theorem kept_eq {l : List Ep} {i : Nat} {x : Ep} (hx : l[i]? = some x) : keptE l i (i + 1) = keptE l i i := by
  have hk := (List.getElem?_eq_some_iff.1 hx).1
  have e1 : (l.take i).length = i := by rw [List.length_take]; omega
  unfold keptE
  rw [List.take_add_one, hx]
  show ((l.take i) ++ [x]).eraseIdx i = _
  have e2 : (l.take i).eraseIdx i = l.take i := List.eraseIdx_of_length_le (by rw [e1]; exact Nat.le_refl _)
  rw [List.eraseIdx_append_of_length_le (by rw [e1]; exact Nat.le_refl _), e1, Nat.sub_self, e2]
  simp
theorem kept_len (l : List Ep) (i k : Nat) : (keptE l i k).length ≤ k := by
  unfold keptE
  refine Nat.le_trans (List.length_eraseIdx_le _ _) ?_
  rw [List.length_take]
  omega
theorem kept_all (l : List Ep) (i : Nat) : keptE l i l.length = l.eraseIdx i := by unfold keptE; rw [List.take_length]

set_option maxHeartbeats 2000000 in
theorem out_any {w : World} {B b : Nat} {room : Int} {l : List Ep} {v : Value} (h : BgD w B b room l v) (hB : B ≤ w.heap.size) (i : Nat) (hi : i < l.length) (hl : l.length ≤ 5000) :
    Calls Try.prog 30 #[.pointer (some ⟨b, 0, none⟩), .int .i64 i] w fun e w' => (∃ u, e = .returned u) ∧ PutGave 53 61 17 ec w B b room (l.eraseIdx i) v w' := by
  obtain ⟨i0, hi0, hz0, hz1, hz2⟩ := info_parts A61
  obtain ⟨g, cap, hv⟩ : ∃ g cap, v = .slice (some ⟨g, 0, none⟩) l.length cap := by
    obtain ⟨g, cap, e, _⟩ := h.one (List.getElem?_eq_getElem hi)
    exact ⟨g, cap, e⟩
  subst hv
  have H := Lib.hid h
  have HBB := Lib.hid hB
  have HI : Hid (∀ (wr : World), Below w.heap.size w wr → ∀ (k : Nat) (y : Ep), l[k]? = some y → wr.rangeAt g (k * 17) (ec y)) := Lib.hid (fun wr hb k y hy => own_at (h.below hb).row hy)
  have HC1 : Hid (∀ (wr : World), Below w.heap.size w wr → wr.cell? ⟨b, 1, none⟩ = some (.slice (some ⟨g, 0, none⟩) l.length cap) ∧ wr.frozen? ⟨b, 1, none⟩ = false) := Lib.hid (fun wr hb => by
    have c1 := blk_cell (h.below hb).blk 1
    simp at c1
    exact ⟨c1, blk_free (h.below hb).blk 1⟩)
  clear h hB
  have HB0 := Lib.hid (balloc w (.cells #[] 61))
  have HW0 := Lib.hid (World.ownsRow_made (base := w.heap.size) (e := 61) (size := 17) w #[] 0 (Nat.le_refl _) (Nat.zero_le _) rfl)
  go_enter Try.func30, Try.ntmps30
  go_wp2
  go_loopw [4, 5] (fun out t wr => ∃ k : Nat, k ≤ l.length ∧ t = .int .i64 k ∧ wr.ownsRow w.heap.size 61 17 out (keptE l i k).length (cellsOf ec (keptE l i k)) ∧ Below w.heap.size w wr) (fun _ t _ => l.length - (intOf t).toNat)
  case atStart => exact ⟨0, Nat.zero_le _, rfl, by simpa [keptE, cellsOf] using HW0.out, HB0.out⟩
  case round =>
    obtain ⟨k, hk, rfl, hown, hb⟩ := hrel
    have HO := Lib.hid hown
    have HB := Lib.hid hb
    have hsz := hb.size
    obtain ⟨c1, f1⟩ := HC1.out wr hb
    clear hown hb HB0 HW0
    by_cases hlt : k < l.length
    · obtain ⟨x, hx⟩ : ∃ x, l[k]? = some x := ⟨_, List.getElem?_eq_getElem hlt⟩
      have HR := Lib.hid (HI.out wr HB.out k x hx)
      by_cases hki : k = i
      · have b1 : ((k : Int) != (i : Int)) = false := by simp; omega
        have HE : Hid (keptE l i (k + 1) = keptE l i k) := Lib.hid (by rw [hki]; rw [hki] at hx; exact kept_eq hx)
        clear hx hki
        go_wp2
        go_roundw
        case rel => exact ⟨k + 1, by omega, by go_num, by rw [HE.out]; exact HO.out, HB.out⟩
        case measure => simp [intOf]; omega
      · have b1 : ((k : Int) != (i : Int)) = true := by simp; omega
        have HE : Hid (keptE l i (k + 1) = keptE l i k ++ [x]) := Lib.hid (kept_ne hx hki)
        have hkl := kept_len l i k
        obtain ⟨n, hn⟩ : ∃ n, (keptE l i k).length = n := ⟨_, rfl⟩
        have HO2 := HO.out
        rw [hn] at hkl HO2
        have HN := Lib.hid hn
        have HOO := Lib.hid (HO2.alloc (.cells (ecells x) 61))
        clear hx hki HO2 hn
        go_wp2_with (first
          | ((with_reducible refine wpList_load_at (op := ⟨some 26, _, _, _, _, _⟩) rfl 61 (.tmp 25) rfl g (k * 17) ?lx (ecells x) _ ?lc Try.underlying61 ?ld ?li ?_); (case lx => rfl); (case lc => exact HR.out); (case ld => rfl); (case li => kernel_rfl))
          | (at_builtin; refine wpList_append_lies _ rfl (.tmp 19) (.tmp 27) 48 rfl w.heap.size 61 i0 (.agg (ecells e0)) 17 152 Try.underlying48 hi0 hz0 hz1 hz2 rfl (by decide) _ n (cellsOf ec (keptE l i k)) rfl HOO.out ⟨wr.heap.size, 0, none⟩ 1 1 (ec x) rfl rfl ?c1 ?c2 (by decide) ?c3 ?c4 ?c5 _ rfl ?_))
        case c1 => exact World.news_of_block (cs := ecells x) (t := 61) (fr := (0, 0)) (heap_alloc_new wr _)
        case c2 => exact ec_one x
        case c3 => simp only [maxLen]; omega
        case c4 => omega
        case c5 => simp; omega
        intro g' cap' w4 hown hgrow hat hlt2
        have HB4 := Lib.hid ((HB.out.alloc hsz (.cells (ecells x) 61)).grown hgrow (by simp; omega) (fun q hq => (HO.out.lt q hq).1))
        have HO4 := Lib.hid hown
        clear hown hgrow hat c1 f1
        go_wp2
        go_roundw
        case rel =>
          refine ⟨k + 1, by omega, by go_num, ?_, HB4.out⟩
          rw [HE.out, cellsOf_append, List.length_append, HN.out]
          simpa [cellsOf] using HO4.out
        case measure => simp [intOf]; omega
    · have hkl : k = l.length := by omega
      have h1 := HO.out
      rw [hkl, kept_all] at h1
      have HP := Lib.hid (gave_new (n := (l.eraseIdx i).length) H.out HB.out HBB.out rfl h1)
      obtain ⟨q, c', hv, -⟩ := own_ins h1
      subst hv
      clear h1
      clear hkl
      go_wp2
      go_end0
      exact ⟨⟨_, rfl⟩, HP.out⟩

/-! Finish. -/
theorem isF_no {x : Ep} {ln fr : Int} (h : isF ln fr x.pl = false) : x.st = false ∨ (x.st = true ∧ (x.m.kd != 3) = false) ∨ (x.st = true ∧ (x.m.kd != 3) = true ∧ ((x.l.length : Int) == 0) = false) ∨
    (x.st = true ∧ (x.m.kd != 3) = true ∧ ((x.l.length : Int) == 0) = true ∧ (x.m.ln == ln) = false) ∨ (x.st = true ∧ (x.m.kd != 3) = true ∧ ((x.l.length : Int) == 0) = true ∧ (x.m.ln == ln) = true ∧ (x.m.fr == fr) = false) := by
  have e : isF ln fr x.pl = (x.m.ln == ln && x.m.fr == fr && x.m.kd != 3 && (x.st && x.l.isEmpty)) := rfl
  have e2 : x.l.isEmpty = ((x.l.length : Int) == 0) := by
    generalize x.l = L
    cases L
    · rfl
    · simp; omega
  rw [e, e2] at h
  revert h
  generalize x.st = a
  generalize (x.m.kd != 3) = b
  generalize ((x.l.length : Int) == 0) = c
  generalize (x.m.ln == ln) = d
  generalize (x.m.fr == fr) = f
  revert a b c d f
  decide
theorem isF_yes {x : Ep} {ln fr : Int} (h : isF ln fr x.pl = true) : x.st = true ∧ (x.m.kd != 3) = true ∧ ((x.l.length : Int) == 0) = true ∧ (x.m.ln == ln) = true ∧ (x.m.fr == fr) = true := by
  have e : isF ln fr x.pl = (x.m.ln == ln && x.m.fr == fr && x.m.kd != 3 && (x.st && x.l.isEmpty)) := rfl
  have e2 : x.l.isEmpty = ((x.l.length : Int) == 0) := by
    generalize x.l = L
    cases L
    · rfl
    · simp; omega
  rw [e, e2] at h
  revert h
  generalize x.st = a
  generalize (x.m.kd != 3) = b
  generalize ((x.l.length : Int) == 0) = c
  generalize (x.m.ln == ln) = d
  generalize (x.m.fr == fr) = f
  revert a b c d f
  decide
/-- What Finish gives: an entry is gone, or none is. -/
def FinGave (w : World) (B b : Nat) (room : Int) (l : List Ep) (v : Value) (o : Option Nat) (e : Ending) (w' : World) : Prop := match o with
  | none => e = .returned (.int .i64 7) ∧ Below w.heap.size w w'
  | some i => e = .returned (.int .i64 0) ∧ PutGave 53 61 17 ec w B b room (l.eraseIdx i) v w'
set_option maxHeartbeats 4000000 in
theorem refFin_gave {w : World} {B b : Nat} {room : Int} {l : List Ep} {v : Value} (h : BgD w B b room l v) (hB : B ≤ w.heap.size) (ln fr : Int) (hl : l.length ≤ 5000) :
    Calls Try.prog 15 #[.pointer (some ⟨b, 0, none⟩), .int .i64 ln, .int .i64 fr] w (FinGave w B b room l v ((l.map Ep.pl).findIdx? (isF ln fr))) := by
  obtain ⟨q, cap, hv, -⟩ := h.form
  subst hv
  have H := Lib.hid h
  have HBB := Lib.hid hB
  have HI : Hid (∀ (wr : World), Below w.heap.size w wr → ∀ (k : Nat) (y : Ep), l[k]? = some y → ∃ g, q = some ⟨g, 0, none⟩ ∧ wr.rangeAt g (k * 17) (ec y)) := Lib.hid (fun wr hb k y hy => by
    obtain ⟨g', cap', e, _, _, _, hr', _⟩ := (h.below hb).one hy
    cases e
    exact ⟨g', rfl, hr'⟩)
  have HC1 : Hid (∀ (wr : World), Below w.heap.size w wr → wr.cell? ⟨b, 1, none⟩ = some (.slice q l.length cap)) := Lib.hid (fun wr hb => by
    have c1 := blk_cell (h.below hb).blk 1
    simp at c1
    exact c1)
  clear h hB
  go_enter Try.func15, Try.ntmps15
  go_wp2
  go_loopw [7] (fun t wr => ∃ k : Nat, k ≤ l.length ∧ t = .int .i64 k ∧ Hid (∀ (j : Nat) (y : En), j < k → (l.map Ep.pl)[j]? = some y → isF ln fr y = false) ∧ Below w.heap.size w wr) (fun t _ => l.length - (intOf t).toNat)
  case atStart => exact ⟨0, Nat.zero_le _, rfl, Lib.hid (fun j y hj => by omega), Below.refl _ _⟩
  case round =>
    obtain ⟨k, hk, rfl, HJ, hb⟩ := hrel
    have HB := Lib.hid hb
    have c1 := HC1.out wr hb
    clear hb
    by_cases hlt : k < l.length
    · obtain ⟨x, hx⟩ : ∃ x, l[k]? = some x := ⟨_, List.getElem?_eq_getElem hlt⟩
      obtain ⟨g, rfl, hr⟩ := HI.out wr HB.out k x hx
      have HR := Lib.hid hr
      have HY := Lib.hid (pl_at hx)
      have HB2 := Lib.hid (below_box wr (.cells zec 61) (ecells x))
      have HG2 : Hid (((wr.alloc (.cells zec 61)).setRow wr.heap.size (ecells x)).heap[wr.heap.size]? = some (.cells (ecells x) 61 (0, 0))) := Lib.hid (setRow_heap _ _ _ _ _ _ (heap_alloc_new wr _))
      clear hx hr
      rcases Bool.eq_false_or_eq_true (isF ln fr x.pl) with he | he
      · have HT : Hid ((l.map Ep.pl).findIdx? (isF ln fr) = some k) := Lib.hid (find_some HY.out he HJ.out)
        obtain ⟨z1, z2, z3, z4, z5⟩ := isF_yes he
        rw [HT.out]
        clear he HT
        go_wp2_with (first
          | ((with_reducible refine wpList_load_at (op := ⟨some 24, _, _, _, _, _⟩) rfl 61 (.tmp 23) rfl g (k * 17) ?lx (ecells x) _ ?lc Try.underlying61 ?ld ?li ?_); (case lx => rfl); (case lc => exact HR.out); (case ld => rfl); (case li => kernel_rfl))
          | ((with_reducible refine wpList_store_row (o := ⟨none, _, _, _, _, _⟩) rfl 61 (.tmp 8) (.tmp 24) rfl wr.heap.size (ecells x) ?sx ?sy 61 ?old ?sg ?si ?so ?s1 ?_); (case sx => rfl); (case sy => rfl); (case old => exact zec); (case sg => exact heap_alloc_new wr _); (case si => kernel_rfl); (case so => rfl); (case s1 => kernel_rfl); generalize (wr.alloc (.cells zec 61)).setRow wr.heap.size (ecells x) = w2 at *; have cb := fun o => blk_cell HG2.out o)
          | (go_at_call 30; refine (out_any (H.out.below (bstep HB.out HB2.out)) (Nat.le_trans HBB.out (bstep HB.out HB2.out).size) k hlt hl).mono ?_; rintro e w3 ⟨⟨u, rfl⟩, hp⟩; have HP := Lib.hid (PutGave.after hp (bstep HB.out HB2.out)); clear hp))
        go_ret
        exact ⟨rfl, HP.out⟩
      · have HK : Hid (∀ (j : Nat) (y : En), j < k + 1 → (l.map Ep.pl)[j]? = some y → isF ln fr y = false) := Lib.hid (fun j y hj hy => by
          by_cases e : j = k
          · subst e
            obtain rfl : x.pl = y := Option.some.inj (HY.out.symm.trans hy)
            exact he
          · exact HJ.out j y (by omega) hy)
        have hq := isF_no he
        clear he
        rcases hq with z1 | ⟨z1, z2⟩ | ⟨z1, z2, z3⟩ | ⟨z1, z2, z3, z4⟩ | ⟨z1, z2, z3, z4, z5⟩
        all_goals
          go_wp2_with (first
            | ((with_reducible refine wpList_load_at (op := ⟨some 24, _, _, _, _, _⟩) rfl 61 (.tmp 23) rfl g (k * 17) ?lx (ecells x) _ ?lc Try.underlying61 ?ld ?li ?_); (case lx => rfl); (case lc => exact HR.out); (case ld => rfl); (case li => kernel_rfl))
            | ((with_reducible refine wpList_store_row (o := ⟨none, _, _, _, _, _⟩) rfl 61 (.tmp 8) (.tmp 24) rfl wr.heap.size (ecells x) ?sx ?sy 61 ?old ?sg ?si ?so ?s1 ?_); (case sx => rfl); (case sy => rfl); (case old => exact zec); (case sg => exact heap_alloc_new wr _); (case si => kernel_rfl); (case so => rfl); (case s1 => kernel_rfl); generalize (wr.alloc (.cells zec 61)).setRow wr.heap.size (ecells x) = w2 at *; have cb := fun o => blk_cell HG2.out o))
          go_roundw
          case rel => exact ⟨k + 1, by omega, by go_num, HK, bstep HB.out HB2.out⟩
          case measure => simp [intOf]; omega
    · have HT : Hid ((l.map Ep.pl).findIdx? (isF ln fr) = none) := Lib.hid (find_none (fun j x hx => HJ.out j x (by have := (List.getElem?_eq_some_iff.1 hx).1; rw [List.length_map] at this; omega) hx))
      go_wp2
      go_ret
      rw [HT.out]
      exact ⟨rfl, HB.out⟩
/-- The document's Finish. -/
theorem refFin_any {w : World} {B b : Nat} {room : Int} {l : List Ep} {v : Value} (h : QuR w B b room l v) (hB : B ≤ w.heap.size) (ln fr : Int) (hl : l.length ≤ 5000) :
    Calls Try.prog 15 #[.pointer (some ⟨b, 0, none⟩), .int .i64 ln, .int .i64 fr] w (GaveD w B b room l v (finP (l.map Ep.pl) ln fr)) := by
  have hg := refFin_gave h.bg hB ln fr hl
  rcases hp : (l.map Ep.pl).findIdx? (isF ln fr) with _ | i
  · rw [hp] at hg
    rw [finP_none hp]
    exact hg.mono fun e w' ⟨he, hb⟩ => ⟨he, h.gave_same hb⟩
  · rw [hp] at hg
    rw [finP_some hp]
    refine hg.mono fun e w' ⟨he, hq⟩ => ⟨he, ?_⟩
    have := h.gaveOld hq (fun z hz => h.cp z (List.mem_of_mem_eraseIdx hz)) fun z hz hne => h.of_mem (List.mem_of_mem_eraseIdx hz) hne
    rw [map_erase] at this
    exact this

end Go.Proofs.Ytnpbbkiojoafbaa
