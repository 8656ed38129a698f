/-
  The document's Share and Give.
-/
import Derived.Test.YtlhecliamhjobaaWbV
import Derived.Test.YtlhecliamhjobaaWbP
import Derived.StillTailTactics
namespace Go.Proofs.Ytlhecliamhjobaa
open Go Go.RowKit

theorem refShare_ret {wr : World} {d : Wd} {n : Int} {P : World → Prop} {a : Act} {g : Nat} (hp : a.tmps.getD 4 undef = .pointer (some ⟨g, 0, none⟩)) (hn : a.tmps.getD 5 undef = .int .i64 n) (hd : a.defers = []) (hg : wr.heap[g]? = some (.cells (dcells d) 32 (0, 0))) (hb : P wr) :
    bodyPost Try.prog Try.f10 (RetW d n P) Exit.ret a wr :=
  bodyPost_ret (v := .tuple #[.agg (dcells d), a.tmps.getD 5 undef]) (results_cell_two Try.results10 _ _ g 32 _ (0, 0) _ hp hg Try.underlying32 rfl (by kernel_rfl)) hd ⟨by rw [hn], hb⟩
theorem refGive_ret {wr : World} {d : Wd} {n : Int} {P : World → Prop} {a : Act} {g : Nat} (hp : a.tmps.getD 4 undef = .pointer (some ⟨g, 0, none⟩)) (hn : a.tmps.getD 5 undef = .int .i64 n) (hd : a.defers = []) (hg : wr.heap[g]? = some (.cells (dcells d) 32 (0, 0))) (hb : P wr) :
    bodyPost Try.prog Try.f11 (RetW d n P) Exit.ret a wr :=
  bodyPost_ret (v := .tuple #[.agg (dcells d), a.tmps.getD 5 undef]) (results_cell_two Try.results11 _ _ g 32 _ (0, 0) _ hp hg Try.underlying32 rfl (by kernel_rfl)) hd ⟨by rw [hn], hb⟩

set_option maxHeartbeats 1000000 in
theorem refShare_any {w : World} {B b : Nat} {room : Int} {l : List En} {v : Value} (h : BgD w B b room l v) (line : Int) (hl : l.length ≤ 8) :
    Calls Try.prog 10 #[.pointer (some ⟨b, 0, none⟩), .int .i64 line] w (RetW (ansP id l line).1.1 (ansP id l line).1.2 (Below w.heap.size w)) := by
  have hbx := balloc w (.cells (dcells d0) 32)
  have h' := h.below hbx
  have HP := refPlace_any h' line (by omega)
  have HB := Lib.hid hbx
  have h4 := heap_alloc_new w (.cells (dcells d0) 32)
  have H4 := Lib.hid h4
  clear hbx h4
  rcases hp : fnd l line with _ | i
  · rw [ansP_none _ hp]
    rw [hp] at HP
    have HP := Lib.hid HP
    clear h h' hp
    go_enter Try.func10, Try.ntmps10
    go_wp2_with fail
    refine HP.out.mono ?_
    rintro e w1 ⟨rfl, rfl⟩
    simp only [oi]
    go_wp2_with ((with_reducible refine wpList_store_row (o := ⟨none, _, _, _, _, _⟩) rfl 32 (.tmp 4) (.tmp 12) rfl w.heap.size (dcells d0) ?sx ?sy 32 ?old ?sg ?si ?so ?s1 ?_); (case sx => rfl); (case sy => rfl); (case old => exact dcells d0); (case sg => exact H4.out); (case si => kernel_rfl); (case so => rfl); (case s1 => kernel_rfl))
    exact refShare_ret rfl rfl rfl (setRow_heap _ _ _ _ _ _ H4.out) (below_setRow HB.out (Nat.le_refl _) _)
  · obtain ⟨x, hx, _, hi⟩ := fnd_some hp
    rw [hp] at HP
    have HP := Lib.hid HP
    have hni : ¬ (i : Int) < 0 := by omega
    obtain ⟨g, cap, rfl, _, _, _, hr, _, _, _⟩ := h'.one hx
    have c1 := blk_cell h'.blk 1
    simp at c1
    have HW := Lib.hid (words_of hr)
    rcases Bool.eq_false_or_eq_true x.lv with ht | ht
    · rw [ansP_yes _ hp hx ht]
      have c9 := (hr 9 _ rfl).trans (congrArg (fun z => some (Value.bool z)) ht)
      clear h h' hp hx hr ht
      go_enter Try.func10, Try.ntmps10
      go_wp2_with fail
      refine HP.out.mono ?_
      rintro e w1 ⟨rfl, rfl⟩
      simp only [oi]
      go_wp2_with (first
        | ((with_reducible refine wpList_load_at (op := ⟨some 30, _, _, _, _, _⟩) rfl 32 (.tmp 29) rfl g (i * 10 + 1) ?lx (dcells x.wd) _ ?lc Try.underlying32 ?ld ?li ?_); (case lx => rfl); (case lc => exact HW.out); (case ld => rfl); (case li => kernel_rfl))
        | ((with_reducible refine wpList_store_row (o := ⟨none, _, _, _, _, _⟩) rfl 32 (.tmp 4) (.tmp 30) rfl w.heap.size (dcells x.wd) ?sx ?sy 32 ?old ?sg ?si ?so ?s1 ?_); (case sx => rfl); (case sy => rfl); (case old => exact dcells d0); (case sg => exact H4.out); (case si => kernel_rfl); (case so => rfl); (case s1 => kernel_rfl)))
      exact refShare_ret rfl rfl rfl (setRow_heap _ _ _ _ _ _ H4.out) (below_setRow HB.out (Nat.le_refl _) _)
    · rw [ansP_no _ hp hx ht]
      have c9 := (hr 9 _ rfl).trans (congrArg (fun z => some (Value.bool z)) ht)
      clear h h' hp hx hr ht
      go_enter Try.func10, Try.ntmps10
      go_wp2_with fail
      refine HP.out.mono ?_
      rintro e w1 ⟨rfl, rfl⟩
      simp only [oi]
      go_wp2_with ((with_reducible refine wpList_store_row (o := ⟨none, _, _, _, _, _⟩) rfl 32 (.tmp 4) (.tmp 22) rfl w.heap.size (dcells d0) ?sx ?sy 32 ?old ?sg ?si ?so ?s1 ?_); (case sx => rfl); (case sy => rfl); (case old => exact dcells d0); (case sg => exact H4.out); (case si => kernel_rfl); (case so => rfl); (case s1 => kernel_rfl))
      exact refShare_ret rfl rfl rfl (setRow_heap _ _ _ _ _ _ H4.out) (below_setRow HB.out (Nat.le_refl _) _)
theorem ans_id {l : List En} {line : Int} : (ansP id l line).2 = l := by
  rcases hp : fnd l line with _ | i
  · rw [ansP_none _ hp]
  · obtain ⟨x, hx, _, hi⟩ := fnd_some hp
    rcases Bool.eq_false_or_eq_true x.lv with ht | ht
    · rw [ansP_yes _ hp hx ht]; exact set_same hx
    · rw [ansP_no _ hp hx ht]
/-- The same, of a change. -/
def GaveX (w : World) (B b : Nat) (room : Int) (v : Value) (r : (Wd × Int) × List En) : Ending → World → Prop := RetW r.1.1 r.1.2 (PutGave 44 47 10 mc w B b room r.2 v)

set_option maxHeartbeats 1000000 in
theorem refGive_err {w : World} {B b : Nat} {room : Int} {l : List En} {v : Value} (h : BgD w B b room l v) (line : Int) (hl : l.length ≤ 8) {d : Wd} {n : Int} (hn : (n == 0) = false) (e1 : ansP id l line = ((d, n), l)) :
    Calls Try.prog 11 #[.pointer (some ⟨b, 0, none⟩), .int .i64 line] w (RetW d n (Below w.heap.size w)) := by
  have HS := refShare_any (h.below (balloc w (.cells (dcells d0) 32))) line hl
  rw [e1] at HS
  have HS := Lib.hid HS
  clear h e1
  go_enter Try.func11, Try.ntmps11
  go_wp2_with fail
  refine HS.out.mono ?_
  rintro e w1 ⟨rfl, hb1⟩
  have hb2 := hb1.trans ((below_box w1 (.cells #[.int .i64 0, .int .i64 0, .int .i64 0, .int .i64 0, .int .i64 0, .int .i64 0, .int .i64 0, .int .i64 0] 32) (dcells d)).mono hb1.size)
  have HB2 := Lib.hid hb2
  have h4 := box_at hb2
  have H4 := Lib.hid h4
  have H6 := Lib.hid (setRow_heap _ _ _ (dcells d) _ _ (heap_alloc_new w1 (.cells #[.int .i64 0, .int .i64 0, .int .i64 0, .int .i64 0, .int .i64 0, .int .i64 0, .int .i64 0, .int .i64 0] 32)))
  clear hb1 hb2 h4
  go_wp2_with (first
    | ((with_reducible refine wpList_store_row (o := ⟨none, _, _, _, _, _⟩) rfl 32 (.tmp 6) (.tmp 12) rfl w1.heap.size (dcells d) ?sx ?sy 32 ?old ?sg ?si ?so ?s1 ?_); (case sx => rfl); (case sy => rfl); (case old => exact dcells d0); (case sg => exact heap_alloc_new w1 _); (case si => kernel_rfl); (case so => rfl); (case s1 => kernel_rfl); generalize (w1.alloc (.cells #[.int .i64 0, .int .i64 0, .int .i64 0, .int .i64 0, .int .i64 0, .int .i64 0, .int .i64 0, .int .i64 0] 32)).setRow w1.heap.size (dcells d) = w2 at *; have hk6 := HB2.out.size; generalize w1.heap.size = k6 at *)
    | ((with_reducible refine wpList_load_row (o := ⟨some 25, _, _, _, _, _⟩) rfl 32 (.tmp 6) rfl k6 ?lx 32 (dcells d) (0, 0) _ ?lg Try.underlying32 ?ld ?li ?_); (case lx => rfl); (case lg => exact H6.out); (case ld => rfl); (case li => kernel_rfl))
    | ((with_reducible refine wpList_store_row (o := ⟨none, _, _, _, _, _⟩) rfl 32 (.tmp 4) (.tmp 25) rfl w.heap.size (dcells d) ?sx ?sy 32 ?old ?sg ?si ?so ?s1 ?_); (case sx => rfl); (case sy => rfl); (case old => exact dcells d0); (case sg => exact H4.out); (case si => kernel_rfl); (case so => rfl); (case s1 => kernel_rfl)))
  exact refGive_ret rfl rfl rfl (setRow_heap _ _ _ _ _ _ H4.out) (below_setRow (bbox HB2.out) (Nat.le_refl _) _)
set_option maxHeartbeats 2000000 in
theorem refGive_yes {w : World} {B b : Nat} {room : Int} {l : List En} {g cap : Nat} (h : BgD w B b room l (.slice (some ⟨g, 0, none⟩) l.length cap)) (line : Int) (hl : l.length ≤ 8) {i : Nat} {x : En} (hp : fnd l line = some i) (hx : l[i]? = some x) (ht : x.lv = true) :
    Calls Try.prog 11 #[.pointer (some ⟨b, 0, none⟩), .int .i64 line] w (RetW x.wd 0 (PutGave 44 47 10 mc w B b room (l.set i (gone x)) (.slice (some ⟨g, 0, none⟩) l.length cap))) := by
  have h' := h.below (balloc w (.cells (dcells d0) 32))
  have HS := refShare_any h' line hl
  rw [ansP_yes _ hp hx ht] at HS
  have HS := Lib.hid HS
  have hi := (List.getElem?_eq_some_iff.1 hx).1
  have hgl := (h.row.lt g rfl).2
  have hni : (0 : Int) ≤ (i : Int) := by omega
  have HP := Lib.hid (fun w1 (hb : Below (w.alloc (.cells (dcells d0) 32)).heap.size (w.alloc (.cells (dcells d0) 32)) w1) => by
    have := refPlace_any (h'.below hb) line (by omega)
    rw [hp] at this
    exact (this.mono fun e w' ⟨h1, h2⟩ => ⟨h1, h2.symm⟩ : Calls Try.prog 16 #[.pointer (some ⟨b, 0, none⟩), .int .i64 line] w1 fun e w' => e = .returned (.int .i64 (i : Int)) ∧ w' = w1))
  have HC := Lib.hid (fun w1 (hb : Below (w.alloc (.cells (dcells d0) 32)).heap.size (w.alloc (.cells (dcells d0) 32)) w1) => (⟨blk_cell (h'.below hb).blk 1, ((h'.below hb).at1 hx).row 9 _ rfl, ((h'.below hb).at1 hx).fz (i * 10 + 9)⟩ : w1.cell? ⟨b, 1, none⟩ = some (.slice (some ⟨g, 0, none⟩) l.length cap) ∧ w1.cell? ⟨g, i * 10 + 9, none⟩ = some (.bool x.lv) ∧ w1.frozen? ⟨g, i * 10 + 9, none⟩ = false))
  have ho : ∀ m, m < 10 → m < 9 ∨ 9 + 1 ≤ m → (mc (gone x))[m]? = (mc x)[m]? := fun m hm hm2 => by
    rcases (show m = 0 ∨ m = 1 ∨ m = 2 ∨ m = 3 ∨ m = 4 ∨ m = 5 ∨ m = 6 ∨ m = 7 ∨ m = 8 by omega) with rfl | rfl | rfl | rfl | rfl | rfl | rfl | rfl | rfl
    all_goals rfl
  have hn : ∀ m, m < [Value.bool false].length → (mc (gone x))[9 + m]? = [Value.bool false][m]? := fun m hm => by simp at hm; subst hm; rfl
  have HE := Lib.hid (fun w1 (hb : Below (w.alloc (.cells (dcells d0) 32)).heap.size (w.alloc (.cells (dcells d0) 32)) w1) => gave_box h (gave_store h' hb hx (gone x) 9 [.bool false] (by simp) hn ho))
  clear h h' hp hx ht ho hn
  go_enter Try.func11, Try.ntmps11
  go_wp2_with fail
  refine HS.out.mono ?_
  rintro e w1 ⟨rfl, hb1⟩
  have hz1 := zbox hb1
  have hb2 := hb1.trans ((below_box w1 (.cells #[.int .i64 0, .int .i64 0, .int .i64 0, .int .i64 0, .int .i64 0, .int .i64 0, .int .i64 0, .int .i64 0] 32) (dcells x.wd)).mono hb1.size)
  have HB2 := Lib.hid hb2
  have H6 := Lib.hid (setRow_heap _ _ _ (dcells x.wd) _ _ (heap_alloc_new w1 (.cells #[.int .i64 0, .int .i64 0, .int .i64 0, .int .i64 0, .int .i64 0, .int .i64 0, .int .i64 0, .int .i64 0] 32)))
  clear hb1 hb2
  go_wp2_with (first
    | ((with_reducible refine wpList_store_row (o := ⟨none, _, _, _, _, _⟩) rfl 32 (.tmp 6) (.tmp 12) rfl w1.heap.size (dcells x.wd) ?sx ?sy 32 ?old ?sg ?si ?so ?s1 ?_); (case sx => rfl); (case sy => rfl); (case old => exact dcells d0); (case sg => exact heap_alloc_new w1 _); (case si => kernel_rfl); (case so => rfl); (case s1 => kernel_rfl); generalize (w1.alloc (.cells #[.int .i64 0, .int .i64 0, .int .i64 0, .int .i64 0, .int .i64 0, .int .i64 0, .int .i64 0, .int .i64 0] 32)).setRow w1.heap.size (dcells x.wd) = w2 at *; have hk6 := HB2.out.size; generalize w1.heap.size = k6 at *)
    | fail)
  obtain ⟨c1, c9, f9⟩ := HC.out _ HB2.out.drew
  have HPW := Lib.hid (HP.out _ HB2.out.drew)
  refine wp_region_still_tail 9 (by kernel_rfl) (by kernel_rfl) ?_
  simp only [List.take_succ_cons, List.take_zero, List.drop_succ_cons, List.drop_zero]
  repeat still_step
  still_call HPW.out
  repeat still_step
  refine wpStill_nil ?_
  change wpList _ _ _ _ _ w2.drew
  obtain ⟨h4, R⟩ := HE.out _ HB2.out.drew
  have h6 := (heap_setCell_other w2.drew ⟨g, i * 10 + 9, none⟩ k6 (.bool false) (by simp only; omega)).trans H6.out
  have H6 := Lib.hid h6
  have H4 := Lib.hid h4
  have R := Lib.hid R
  clear h4 h6 c1
  go_wp2_with (first
    | ((with_reducible refine wpList_load_row (o := ⟨some 25, _, _, _, _, _⟩) rfl 32 (.tmp 6) rfl k6 ?lx 32 (dcells x.wd) (0, 0) _ ?lg Try.underlying32 ?ld ?li ?_); (case lx => rfl); (case lg => exact H6.out); (case ld => rfl); (case li => kernel_rfl))
    | ((with_reducible refine wpList_store_row (o := ⟨none, _, _, _, _, _⟩) rfl 32 (.tmp 4) (.tmp 25) rfl w.heap.size (dcells x.wd) ?sx ?sy 32 ?old ?sg ?si ?so ?s1 ?_); (case sx => rfl); (case sy => rfl); (case old => exact dcells d0); (case sg => exact H4.out); (case si => kernel_rfl); (case so => rfl); (case s1 => kernel_rfl)))
  exact refGive_ret rfl rfl rfl (setRow_heap _ _ _ _ _ _ H4.out) (R.out _)
/-- The document's Give. -/
theorem refGive_any {w : World} {B b : Nat} {room : Int} {l : List En} {v : Value} (h : BgD w B b room l v) (line : Int) (hl : l.length ≤ 8) :
    Calls Try.prog 11 #[.pointer (some ⟨b, 0, none⟩), .int .i64 line] w (GaveX w B b room v (ansP gone l line)) := by
  rcases hp : fnd l line with _ | i
  · rw [ansP_none _ hp]
    exact (refGive_err h line hl (by decide) (ansP_none _ hp)).mono fun e w' ⟨h1, h2⟩ => ⟨h1, gave_same h h2⟩
  · obtain ⟨x, hx, _, hi⟩ := fnd_some hp
    obtain ⟨g, cap, rfl, _⟩ := h.one hx
    rcases Bool.eq_false_or_eq_true x.lv with ht | ht
    · rw [ansP_yes _ hp hx ht]
      exact (refGive_yes h line hl hp hx ht).mono fun e w' ⟨h1, h2⟩ => ⟨h1, h2⟩
    · rw [ansP_no _ hp hx ht]
      exact (refGive_err h line hl (by decide) (ansP_no _ hp hx ht)).mono fun e w' ⟨h1, h2⟩ => ⟨h1, gave_same h h2⟩

end Go.Proofs.Ytlhecliamhjobaa
