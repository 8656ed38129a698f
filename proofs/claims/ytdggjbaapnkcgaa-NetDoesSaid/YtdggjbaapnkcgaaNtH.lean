/-
  What Empty and Of of a net do: loops over the iterator.
-/
import Derived.Test.YtdggjbaapnkcgaaNtG
import Derived.RangeFuncBox
import Derived.RangeFuncFrom
import Derived.RangeFuncWrites
import Derived.Maps.AppendAt
namespace Go.Proofs.Ytdggjbaapnkcgaa
open Go Go.RowKit Go.Shelf
attribute [local go_sem] Oper.semAt_some

variable {w : World} {B n : Nat} {c : Cfg} {b : Nat → Nat} {l : Nat → List Msg} {v : Nat → Value}

theorem all_stops (m : Nat) (hm : 1 ≤ m) (Bn n₀ : Nat) (w : World) (hBn : Bn < w.heap.size) (hc : w.cell? ⟨Bn, 0, none⟩ = some (.pointer (some ⟨n, 0, none⟩))) (hN : NetP w B n c b l v) (hF : ∀ q, Foot n b v q → q < n₀) (hn0 : n₀ ≤ w.heap.size) :
    SeqStopsK Fence.wide m Try.prog 48 #[.pointer (some ⟨Bn, 0, none⟩)] (fun x : Msg => #[mv x]) (Below n₀) (fun ys => ys = allOf l) (fun pre => pre <+: allOf l) 1000 w := fun lp J Jx W hW hJ hJx hY h0 =>
  all1_in m hm lp Bn n₀ J Jx hJ hJx hY W ((hW.cell (p := ⟨Bn, 0, none⟩) hBn).trans hc) (hN.below hW) hF (Nat.le_trans hn0 hW.size) h0

set_option maxRecDepth 100000 in
set_option maxHeartbeats 4000000 in
/-- Empty. -/
theorem nempty_any (h : NetP w B n c b l v) :
    Calls Try.prog 18 #[.pointer (some ⟨n, 0, none⟩)] w fun e w' => e = .returned (.bool (allOf l).isEmpty) ∧ Below w.heap.size w w' := by
  refine (callsIn_wide (n := 5)).1 ?_
  refine callsIn_of_wp_marks Try.func18 rfl trivial ?_ rfl
  simp only [Try.ntmps18, List.size_toArray, List.length_cons, List.length_nil, Nat.reduceAdd, Nat.reduceSub, Array.replicate_succ, Array.replicate_zero, List.push_toArray, List.append_toArray, List.nil_append, List.cons_append]
  gi_wp2_with (refine ⟨trivial, ?_⟩; gi_at_call 35; refine (callsIn_wide.2 (all_any _ _)).mono ?_; rintro e w' ⟨rfl, rfl⟩)
  have c1 := (Boxed.new w 4 (.bool false)).alloc (.cells #[.pointer (some ⟨n, 0, none⟩)] 27)
  have c2 := Boxed.new (w.alloc (.cells #[.bool false] 4)) 27 (.pointer (some ⟨n, 0, none⟩))
  simp only [World.size_alloc] at c2
  have hB0 : Below w.heap.size w ((w.alloc (.cells #[.bool false] 4)).alloc (.cells #[.pointer (some ⟨n, 0, none⟩)] 27)) := ((Below.refl _ w).alloc (Nat.le_refl _) _).alloc (by simp) _
  refine wpIn_rangeFunc_ownF rfl (by omega) (gf := 48) (lb := #[.pointer (some ⟨w.heap.size + 1, 0, none⟩)]) rfl trivial (enters_of Try.func48 (by kernel_rfl) rfl)
    (all_stops _ (by omega) (w.heap.size + 1) w.heap.size _ (by simp) c2.cell (h.below hB0) (fun q hq => (h.foot q hq).2) (by simp; omega)) belowK_t (belowK_b (by simp; omega)) (Below.refl _ _) (fun _ => rfl)
    (fun pre W => (pre = [] ∧ W.cell? ⟨w.heap.size, 0, none⟩ = some (.bool false) ∧ W.frozen? ⟨w.heap.size, 0, none⟩ = false) ∧ Below w.heap.size w W)
    (fun c pre W => (c = .ret ∧ pre ≠ [] ∧ W.cell? ⟨w.heap.size, 0, none⟩ = some (.bool false)) ∧ Below w.heap.size w W)
    (OwnFrom.and (Own.from (fun s A B row hs hg hr => ⟨hs.1, cell_kept hs.2.1 hg hr, (frozen_kept hs.2.1 hg hr).trans hs.2.2⟩) _) (ownFrom_below (Nat.le_refl _) (by simp; omega)))
    (fun c => OwnFrom.and (Own.from (fun s A B row hs hg hr => ⟨hs.1, hs.2.1, cell_kept hs.2.2 hg hr⟩) _) (ownFrom_below (Nat.le_refl _) (by simp; omega)))
    ⟨⟨rfl, c1.cell, c1.frozen⟩, hB0⟩
    (fun x => { tmps := #[.pointer (some ⟨n, 0, none⟩), undef, .pointer (some ⟨w.heap.size, 0, none⟩), .pointer (some ⟨n, 0, none⟩), .func (.func 48) #[] #[.pointer (some ⟨w.heap.size + 1, 0, none⟩)], mv x], defers := [] }) ?assign ?body ?done ?stop
  case assign =>
    intro l x W K hK
    gi_wp2
    simpa using hK
  case body =>
    rintro l pre x W ⟨⟨hp, hcr, hfr⟩, hB⟩ _
    gi_wp2
    exact ⟨KeepsOthers.setCell _ _ _, ⟨rfl, by simp, World.cell?_setCell_same' _ _ _ (by rw [hcr]; rfl)⟩, hB.setCell (p := ⟨w.heap.size, 0, none⟩) (by simp) _⟩
  case done =>
    rintro D ys W hD rfl ⟨⟨hne, hcr, hfr⟩, hB⟩ hK
    gi_wp2
    have hK' := (KeepsOthers.setCell W ⟨w.heap.size, 0, none⟩ (.bool true)).same D _ hK rfl
    refine ⟨by simp, .inl ⟨_, _, rfl, run_takeDeferred hK', ?_⟩⟩
    have hc5 := cell_kept (World.cell?_setCell_same' W ⟨w.heap.size, 0, none⟩ (.bool true) (by rw [hcr]; rfl)) (grownBy_putObj' _ D (.deferred none)) (fun r e => by cases e; exact ⟨_, hK', rfl⟩)
    refine ⟨.bool true, ?_, by rw [hne]; rfl, (hB.setCell (p := ⟨w.heap.size, 0, none⟩) (by simp) _).trans (belowK_b (w := w) (Nat.le_refl _) _ D _ _ (by simp at hD; omega) hK' rfl rfl)⟩
    simp [results, Try.f18, go_sem, hc5]
  case stop =>
    rintro D c pre W hD hpre ⟨⟨rfl, hin, hcr⟩, hB⟩ hK
    gi_wp2
    refine ⟨by simp, .inl ⟨_, _, rfl, run_takeDeferred hK, ?_⟩⟩
    have hc5 := cell_kept hcr (grownBy_putObj' _ D (.deferred none)) (fun r e => by cases e; exact ⟨_, hK, rfl⟩)
    refine ⟨.bool false, ?_, ?_, hB.trans (belowK_b (w := w) (Nat.le_refl _) W D _ _ (by simp at hD; omega) hK rfl rfl)⟩
    · simp [results, Try.f18, go_sem, hc5]
    · have : allOf l ≠ [] := fun e => hin (List.prefix_nil.1 (e ▸ hpre))
      rw [show (allOf l).isEmpty = false by simpa using this]

/-- Those of a line. -/
def flt (line : Int) (l : List Msg) : List Msg := l.filter fun m => m.ln == line
theorem flt_hit {line : Int} (pre : List Msg) {x : Msg} (h : (x.ln == line) = true) : flt line (pre ++ [x]) = flt line pre ++ [x] := by simp [flt, List.filter_append, h]
theorem flt_miss {line : Int} (pre : List Msg) {x : Msg} (h : (x.ln == line) = false) : flt line (pre ++ [x]) = flt line pre := by simp [flt, List.filter_append, h]

set_option maxRecDepth 100000 in
set_option maxHeartbeats 4000000 in
/-- Of. -/
theorem nof_any (h : NetP w B n c b l v) (line : Int) :
    Calls Try.prog 20 #[.pointer (some ⟨n, 0, none⟩), .int .i64 line] w (RowGave 37 15 mg (flt line (allOf l)) w) := by
  obtain ⟨i0, hi0, hz0, hz1, hz2⟩ := info_parts A52
  refine (callsIn_wide (n := 5)).1 ?_
  refine callsIn_of_wp_marks Try.func20 rfl trivial ?_ rfl
  simp only [Try.ntmps20, List.size_toArray, List.length_cons, List.length_nil, Nat.reduceAdd, Nat.reduceSub, Array.replicate_succ, Array.replicate_zero, List.push_toArray, List.append_toArray, List.nil_append, List.cons_append]
  gi_wp2_with (refine ⟨trivial, ?_⟩; gi_at_call 35; refine (callsIn_wide.2 (all_any _ _)).mono ?_; rintro e w' ⟨rfl, rfl⟩)
  have bL := ((Boxed.new w 3 (.int .i64 line)).alloc (.cells #[.slice none 0 0] 46)).alloc (.cells #[.pointer (some ⟨n, 0, none⟩)] 27)
  have bO := (Boxed.new (w.alloc (.cells #[.int .i64 line] 3)) 46 (.slice none 0 0)).alloc (.cells #[.pointer (some ⟨n, 0, none⟩)] 27)
  have bN := Boxed.new ((w.alloc (.cells #[.int .i64 line] 3)).alloc (.cells #[.slice none 0 0] 46)) 27 (.pointer (some ⟨n, 0, none⟩))
  simp only [World.size_alloc] at bO bN
  have hB0 : Below w.heap.size w (((w.alloc (.cells #[.int .i64 line] 3)).alloc (.cells #[.slice none 0 0] 46)).alloc (.cells #[.pointer (some ⟨n, 0, none⟩)] 27)) := (((Below.refl _ w).alloc (Nat.le_refl _) _).alloc (by simp) _).alloc (by simp; omega) _
  have hsz : (((w.alloc (.cells #[.int .i64 line] 3)).alloc (.cells #[.slice none 0 0] 46)).alloc (.cells #[.pointer (some ⟨n, 0, none⟩)] 27)).heap.size = w.heap.size + 3 := by simp
  obtain ⟨W0, hW0⟩ : ∃ W0, ((w.alloc (.cells #[.int .i64 line] 3)).alloc (.cells #[.slice none 0 0] 46)).alloc (.cells #[.pointer (some ⟨n, 0, none⟩)] 27) = W0 := ⟨_, rfl⟩
  rw [hW0] at bL bO bN hB0 hsz ⊢
  clear hW0
  refine wpIn_rangeFunc_ownH rfl (by omega) (gf := 48) (lb := #[.pointer (some ⟨w.heap.size + 1 + 1, 0, none⟩)]) rfl trivial (enters_of Try.func48 (by kernel_rfl) rfl)
    (all_stops _ (by omega) (w.heap.size + 1 + 1) w.heap.size W0 (by omega) bN.cell (h.below hB0) (fun q hq => (h.foot q hq).2) (by omega)) belowK_t (belowK_b (by omega)) (Below.refl _ _) (fun _ => rfl)
    (fun pre W => ((∃ u, Boxed W (w.heap.size + 1) 46 u ∧ W.ownsRow w.heap.size 37 15 u (flt line pre).length (cellsOf mg (flt line pre)) ∧ True) ∧ Boxed W w.heap.size 3 (.int .i64 line)) ∧ Below w.heap.size w W)
    (fun _ _ _ => False)
    (OwnFrom.and (OwnFrom.and (Own.from (holdsRow_own w.heap.size (w.heap.size + 1) 46 37 15 (fun pre => (flt line pre).length) (fun pre => cellsOf mg (flt line pre)) (fun _ _ => True)) _) (Own.from (boxed_own _ _ _) _)) (ownFrom_below (Nat.le_refl _) (by omega)))
    (fun _ _ _ _ _ hs _ _ => hs)
    ⟨⟨⟨_, bO, World.ownsRow_nil _ _ _ _, trivial⟩, bL⟩, hB0⟩
    (fun x a' W => ∃ Bx, w.heap.size + 1 < Bx ∧ W.heap[Bx]? = some (.cells (mcells x) 37 (0, 0)) ∧ a' = { tmps := #[.pointer (some ⟨n, 0, none⟩), .int .i64 line, undef, .pointer (some ⟨w.heap.size, 0, none⟩), .slice none 0 0, .pointer (some ⟨w.heap.size + 1, 0, none⟩), .pointer (some ⟨Bx, 0, none⟩), .pointer (some ⟨n, 0, none⟩), .func (.func 48) #[] #[.pointer (some ⟨w.heap.size + 1 + 1, 0, none⟩)], mv x, undef, undef, undef, undef, undef, undef, undef, undef, undef], defers := [] })
    (fun x a' _ X Y row hs hg hrow => by
      obtain ⟨Bx, h1, h2, h3⟩ := hs
      exact ⟨Bx, h1, (grownBy_keeps_cells hg (fun r e => (hrow r e).2) h2 rfl).trans h2, h3⟩) ?assign ?body ?done ?stop
  case assign =>
    rintro lp pre x W K ⟨⟨⟨u, hu, hr, _⟩, hL⟩, hB⟩ hK
    gi_wp2
    exact hK _ _ ((KeepsOthers.alloc _ _).from _) ((Below.refl _ W).alloc hB.size _) ⟨⟨⟨u, hu.alloc _, hr.alloc _, trivial⟩, hL.alloc _⟩, hB.alloc hB.size _⟩ ⟨W.heap.size, hu.lt, World.alloc_heap_new W _, rfl⟩
  case body =>
    rintro lp pre x a' W hl ⟨r, hr⟩ ⟨⟨⟨u, hu, hrow, _⟩, hL⟩, hB⟩ ⟨Bx, hBx, bX, rfl⟩ hlt
    have hc := hu.cell
    have hcL := hL.cell
    have cX := fun i => blk_cell bX i
    have hpl : (flt line pre).length ≤ pre.length := List.length_filter_le _ _
    gi_wp2_with (gi_at_builtin; refine wpListIn_append_own _ rfl _ _ 46 rfl w.heap.size 37 i0 (.agg (mga m0)) 15 120 Try.underlying46 hi0 hz0 hz1 hz2 rfl (by decide) _ _ _ rfl (hrow.alloc _) ⟨W.heap.size, 0, none⟩ 1 1 (mg x) rfl rfl (World.news_of_block (cs := mga x) (t := 37) (fr := (0, 0)) (World.alloc_heap_new W _)) (by intro u hu; exact mg_cells [x] u (by simpa [cellsOf] using hu)) (by unfold maxLen; omega) (by omega) (by have := hB.size; simp; omega) ?_; intro v' w1 hown' hgrow _; obtain ⟨g', cap', rfl⟩ := ownsRow_succ hown'; obtain ⟨hv1, hv2, hr2, hk2, hb2⟩ := hu.appended (by decide) hrow hB.size (by omega) hown' hgrow; have hc1 := hv1.cell; have hf1 := hv1.frozen)
    · have hx : (x.ln == line) = true := by assumption
      exact ⟨hk2.from _, hb2, ⟨⟨_, hv2, by rw [flt_hit pre hx, List.length_append, List.length_singleton, cellsOf_append]; simpa [cellsOf] using hr2, trivial⟩, ((hL.alloc _).kept hgrow (hL.not_row (by decide) hrow)).other (by omega) _⟩, hB.trans hb2⟩
    · have hx : (x.ln == line) = false := by assumption
      exact ⟨KeepsFrom.refl _ _, Below.refl _ _, ⟨⟨u, hu, by rw [flt_miss pre hx]; exact hrow, trivial⟩, hL⟩, hB⟩
  case done =>
    rintro D ys W hD rfl ⟨⟨⟨u, hu, hrow, _⟩, hL⟩, hB⟩ hK
    have hc := hu.cell
    gi_wp2
    refine ⟨by simp, .inl ⟨_, _, rfl, run_takeDeferred hK, ?_⟩⟩
    exact ⟨_, results_tmp rfl _ _ _, u, rfl, ownsRow_putObj hrow _ hK rfl, hB.trans (belowK_b (w := w) (Nat.le_refl _) W D _ _ (by omega) hK rfl rfl)⟩
  case stop =>
    rintro D c pre W _ _ h _
    exact h.elim

end Go.Proofs.Ytdggjbaapnkcgaa
