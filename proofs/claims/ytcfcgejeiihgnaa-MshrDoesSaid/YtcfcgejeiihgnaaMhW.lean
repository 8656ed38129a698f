/-
  The document's Owe.
-/
import Derived.Test.YtcfcgejeiihgnaaMhU
import Derived.Test.YtcfcgejeiihgnaaMhH
namespace Go.Proofs.Ytcfcgejeiihgnaa
open Go Go.RowKit

/-- What the document's Owe gives. -/
def GaveE (w : World) (B b : Nat) (room : Int) (v : Value) (r : (Ms × Bool) × List Ms) (e : Ending) (w' : World) : Prop :=
  e = .returned (.tuple #[.agg (mcells r.1.1), .bool r.1.2]) ∧ PutGave 52 39 15 mc w B b room r.2 v w'
theorem refOwe_ret {wr : World} {x : Ms} {q : Bool} {P : World → Prop} {a : Act} {g : Nat} (hp : a.tmps.getD 4 undef = .pointer (some ⟨g, 0, none⟩)) (hq : a.tmps.getD 5 undef = .bool q) (hd : a.defers = []) (hg : wr.heap[g]? = some (.cells (mcells x) 39 (0, 0))) (hb : P wr) :
    bodyPost Try.prog Try.f26 (RetR x q P) Exit.ret a wr :=
  bodyPost_ret (v := .tuple #[.agg (mcells x), a.tmps.getD 5 undef]) (results_cell_two Try.results26 _ _ g 39 _ (0, 0) _ hp hg Try.underlying39 rfl (by kernel_rfl)) hd ⟨by rw [hq], hb⟩
theorem drew_box {w : World} {o : Obj} (n : Nat) : ((w.alloc o).drewN n).heap[w.heap.size]? = some o := heap_alloc_new w o

set_option maxRecDepth 100000 in
set_option maxHeartbeats 2000000 in
theorem refOwe_none {w : World} {B b : Nat} {room : Int} {l : List Ms} {v : Value} (h : BgD w B b room l v) (line : Int) (hl : l.length ≤ 5000) (hp : fnd l line = none) :
    Calls Try.prog 26 #[.pointer (some ⟨b, 0, none⟩), .int .i64 line] w (RetR m0 false (Below w.heap.size w)) := by
  have HP := fun (o : Obj) => refPlace_any (h.below (balloc w o)) line hl
  rw [hp] at HP
  have HP := Lib.hid HP
  clear h hp
  go_enter Try.func26, Try.ntmps26
  go_wp2_with fail
  refine (HP.out _).mono ?_
  rintro e w1 ⟨rfl, rfl⟩
  simp only [oi]
  have hneg : decide ((-1 : Int) < 0) = true := by decide
  go_wp2
  go_quiet (fail)
  go_wp2_with ((with_reducible refine wpList_store_row (o := ⟨none, _, _, _, _, _⟩) rfl 39 (.tmp 4) (.tmp 53) rfl w.heap.size (mcells m0) ?sx ?sy 39 ?old ?sg ?si ?so ?s1 ?_); (case sx => rfl); (case sy => rfl); (case old => exact mcells m0); (case sg => exact drew_box _); (case si => kernel_rfl); (case so => rfl); (case s1 => kernel_rfl))
  exact refOwe_ret rfl rfl rfl (setRow_heap _ _ _ _ _ _ (drew_box _)) (below_setRow (below_drewN (balloc w _) _) (Nat.le_refl _) _)

set_option maxRecDepth 100000 in
set_option maxHeartbeats 2000000 in
theorem refOwe_no {w : World} {B b : Nat} {room k : Int} {l : List Ms} {g cap : Nat} (h : BgD w B b room l (.slice (some ⟨g, 0, none⟩) l.length cap)) (line : Int) (hl : l.length ≤ 5000) {i : Nat} {x : Ms} (hp : fnd l line = some i) (hx : l[i]? = some x) (hok : Ok k x) (ht : (x.os || !came x) = true) :
    Calls Try.prog 26 #[.pointer (some ⟨b, 0, none⟩), .int .i64 line] w (RetR m0 false (Below w.heap.size w)) := by
  have HP := fun (o : Obj) => refPlace_any (h.below (balloc w o)) line hl
  rw [hp] at HP
  have HP := Lib.hid HP
  have hi := (List.getElem?_eq_some_iff.1 hx).1
  have hni : decide ((i : Int) < 0) = false := by simp
  have HC := Lib.hid (fun (o : Obj) => blk_cell (h.below (balloc w o)).blk 1)
  have HA := Lib.hid (fun (o : Obj) => (h.below (balloc w o)).at1 hx)
  obtain ⟨ln, kd, nd, gt, ow, wd, gr, os⟩ := x
  have hcs : os = true ∨ os = false ∧ nd < 0 ∧ decide (nd < 0) = true ∨ os = false ∧ 0 ≤ nd ∧ decide (nd < 0) = false ∧ (nd != gt) = true := by
    have hnd := hok.nd
    simp only at hnd
    simp [came, knw] at ht
    rcases Bool.eq_false_or_eq_true os with e | e
    · exact .inl e
    · by_cases h0 : nd < 0
      · exact .inr (.inl ⟨e, h0, by simpa using h0⟩)
      · refine .inr (.inr ⟨e, by omega, by simpa using h0, ?_⟩)
        simp [e] at ht
        simp
        omega
  clear h hp hx hok ht
  rcases hcs with rfl | ⟨rfl, h0, h1⟩ | ⟨rfl, h0, h1, h2⟩
  all_goals
    go_enter Try.func26, Try.ntmps26
    go_wp2_with fail
    refine (HP.out _).mono ?_
    rintro e w1 ⟨rfl, rfl⟩
    simp only [oi]
    have c1 := HC.out (.cells #[.int .i64 0, .int .i64 0, .int .i64 0, .int .i64 0, .int .i64 0, .int .i64 0, .int .i64 0, .int .i64 0, .int .i64 0, .int .i64 0, .int .i64 0, .int .i64 0, .int .i64 0, .bool false, .bool false] 39)
    simp at c1
    obtain ⟨-, -, q2, q3, -, -, -, -, -, -, -, -, -, -, q14⟩ := (HA.out (.cells #[.int .i64 0, .int .i64 0, .int .i64 0, .int .i64 0, .int .i64 0, .int .i64 0, .int .i64 0, .int .i64 0, .int .i64 0, .int .i64 0, .int .i64 0, .int .i64 0, .int .i64 0, .bool false, .bool false] 39)).cellsF
    go_wp2
    go_quiet (fail)
    go_wp2_with ((with_reducible refine wpList_store_row (o := ⟨none, _, _, _, _, _⟩) rfl 39 (.tmp 4) (.tmp 53) rfl w.heap.size (mcells m0) ?sx ?sy 39 ?old ?sg ?si ?so ?s1 ?_); (case sx => rfl); (case sy => rfl); (case old => exact mcells m0); (case sg => exact drew_box _); (case si => kernel_rfl); (case so => rfl); (case s1 => kernel_rfl))
    exact refOwe_ret rfl rfl rfl (setRow_heap _ _ _ _ _ _ (drew_box _)) (below_setRow (below_drewN (balloc w _) _) (Nat.le_refl _) _)

set_option maxRecDepth 100000 in
set_option maxHeartbeats 2000000 in
theorem refOwe_yes {w : World} {B b : Nat} {room : Int} {l : List Ms} {g cap : Nat} (h : BgD w B b room l (.slice (some ⟨g, 0, none⟩) l.length cap)) (line : Int) (hl : l.length ≤ 5000) {i : Nat} {x : Ms} (hp : fnd l line = some i) (hx : l[i]? = some x) (hnd : -1 ≤ x.nd) (ht : (x.os || !came x) = false) :
    Calls Try.prog 26 #[.pointer (some ⟨b, 0, none⟩), .int .i64 line] w (RetR x true (PutGave 52 39 15 mc w B b room (l.set i (owesY x)) (.slice (some ⟨g, 0, none⟩) l.length cap))) := by
  have HP := fun (o : Obj) => refPlace_any (h.below (balloc w o)) line hl
  rw [hp] at HP
  have HP := Lib.hid HP
  have hi := (List.getElem?_eq_some_iff.1 hx).1
  have hni : decide ((i : Int) < 0) = false := by simp
  have HC := Lib.hid (fun w1 (hb : Below w.heap.size w w1) => blk_cell (h.below hb).blk 1)
  have HA := Lib.hid (fun w1 (hb : Below w.heap.size w w1) => (h.below hb).at1 hx)
  have hgl := (h.row.lt g rfl).2
  have HE : Hid (∀ w1 (cs : Array Value), Below w.heap.size w w1 → PutGave 52 39 15 mc w B b room (l.set i (owesY x)) (.slice (some ⟨g, 0, none⟩) l.length cap) ((w1.setCell ⟨g, i * 15 + 14, none⟩ (.bool true)).setRow w.heap.size cs)) := Lib.hid (fun w1 cs hb =>
    gave_store_row h hb hx (owesY x) 14 [.bool true] (by simp) (fun m hm => by simp at hm; subst hm; rfl) (fun m hm hm2 => by
      simp at hm2
      rcases (show m = 0 ∨ m = 1 ∨ m = 2 ∨ m = 3 ∨ m = 4 ∨ m = 5 ∨ m = 6 ∨ m = 7 ∨ m = 8 ∨ m = 9 ∨ m = 10 ∨ m = 11 ∨ m = 12 ∨ m = 13 by omega) with rfl | rfl | rfl | rfl | rfl | rfl | rfl | rfl | rfl | rfl | rfl | rfl | rfl | rfl
      all_goals rfl) w.heap.size (Nat.le_refl _) cs)
  obtain ⟨ln, kd, nd, gt, ow, wd, gr, os⟩ := x
  have hcs : os = false ∧ 0 ≤ nd ∧ decide (nd < 0) = false ∧ (nd != gt) = false := by
    simp only at hnd
    simp [came, knw] at ht
    obtain ⟨h1, h2, h3⟩ := ht
    refine ⟨h1, by omega, by simp; omega, by simp; omega⟩
  obtain ⟨rfl, h0, h1, h2⟩ := hcs
  clear h hp hx hnd ht
  go_enter Try.func26, Try.ntmps26
  go_wp2_with fail
  refine (HP.out _).mono ?_
  rintro e w1 ⟨rfl, rfl⟩
  simp only [oi]
  have c1 := HC.out _ (balloc w (.cells #[.int .i64 0, .int .i64 0, .int .i64 0, .int .i64 0, .int .i64 0, .int .i64 0, .int .i64 0, .int .i64 0, .int .i64 0, .int .i64 0, .int .i64 0, .int .i64 0, .int .i64 0, .bool false, .bool false] 39))
  simp at c1
  obtain ⟨-, -, q2, q3, -, -, -, -, -, -, -, -, -, -, q14⟩ := (HA.out _ (balloc w (.cells #[.int .i64 0, .int .i64 0, .int .i64 0, .int .i64 0, .int .i64 0, .int .i64 0, .int .i64 0, .int .i64 0, .int .i64 0, .int .i64 0, .int .i64 0, .int .i64 0, .int .i64 0, .bool false, .bool false] 39))).cellsF
  go_wp2
  go_quiet (fail)
  have hb2 := below_drewN (balloc w (.cells #[.int .i64 0, .int .i64 0, .int .i64 0, .int .i64 0, .int .i64 0, .int .i64 0, .int .i64 0, .int .i64 0, .int .i64 0, .int .i64 0, .int .i64 0, .int .i64 0, .int .i64 0, .bool false, .bool false] 39)) nq
  have hx2 := drew_box (w := w) (o := .cells #[.int .i64 0, .int .i64 0, .int .i64 0, .int .i64 0, .int .i64 0, .int .i64 0, .int .i64 0, .int .i64 0, .int .i64 0, .int .i64 0, .int .i64 0, .int .i64 0, .int .i64 0, .bool false, .bool false] 39) nq
  clear c1 q2 q3 q14
  generalize (w.alloc (.cells #[.int .i64 0, .int .i64 0, .int .i64 0, .int .i64 0, .int .i64 0, .int .i64 0, .int .i64 0, .int .i64 0, .int .i64 0, .int .i64 0, .int .i64 0, .int .i64 0, .int .i64 0, .bool false, .bool false] 39)).drewN nq = w3 at *
  have hz3 := lt_of_block hx2
  have c1 := HC.out _ hb2
  simp at c1
  have HR := Lib.hid (HA.out _ hb2).row
  have HB := Lib.hid (bstep hb2 (below_setRow (balloc w3 (.cells #[.int .i64 0, .int .i64 0, .int .i64 0, .int .i64 0, .int .i64 0, .int .i64 0, .int .i64 0, .int .i64 0, .int .i64 0, .int .i64 0, .int .i64 0, .int .i64 0, .int .i64 0, .bool false, .bool false] 39)) (Nat.le_refl _) (mcells ⟨ln, kd, nd, gt, ow, wd, gr, false⟩)))
  have c2 := HC.out _ HB.out
  simp at c2
  have HN := HA.out _ HB.out
  have c14 := HN.row 14 _ rfl
  have f14 := HN.fz (i * 15 + 14)
  have hbx := (Below.heap_alloc w3 (.cells #[.int .i64 0, .int .i64 0, .int .i64 0, .int .i64 0, .int .i64 0, .int .i64 0, .int .i64 0, .int .i64 0, .int .i64 0, .int .i64 0, .int .i64 0, .int .i64 0, .int .i64 0, .bool false, .bool false] 39) w.heap.size hz3).trans hx2
  have hbx2 := (setRow_other (w3.alloc (.cells #[.int .i64 0, .int .i64 0, .int .i64 0, .int .i64 0, .int .i64 0, .int .i64 0, .int .i64 0, .int .i64 0, .int .i64 0, .int .i64 0, .int .i64 0, .int .i64 0, .int .i64 0, .bool false, .bool false] 39)) w3.heap.size w.heap.size (mcells ⟨ln, kd, nd, gt, ow, wd, gr, false⟩) (by omega)).trans hbx
  have hbx3 := (heap_setCell_other _ ⟨g, i * 15 + 14, none⟩ w.heap.size (.bool true) (by simp only; omega)).trans hbx2
  have hb7 := (heap_setCell_other _ ⟨g, i * 15 + 14, none⟩ w3.heap.size (.bool true) (by simp only; omega)).trans (setRow_heap _ _ _ (mcells ⟨ln, kd, nd, gt, ow, wd, gr, false⟩) _ _ (heap_alloc_new w3 (.cells #[.int .i64 0, .int .i64 0, .int .i64 0, .int .i64 0, .int .i64 0, .int .i64 0, .int .i64 0, .int .i64 0, .int .i64 0, .int .i64 0, .int .i64 0, .int .i64 0, .int .i64 0, .bool false, .bool false] 39)))
  have H7 := Lib.hid hb7
  have H3 := Lib.hid hbx3
  have HB2 := Lib.hid hb2
  clear HN hbx hbx2 hbx3 hb7 hx2 hb2
  go_wp2_with (first
    | ((with_reducible refine wpList_load_mid (op := ⟨some 60, _, _, _, _, _⟩) rfl 39 (.tmp 59) rfl g (i * 15) ?lx (mc ⟨ln, kd, nd, gt, ow, wd, gr, false⟩) _ ?lc Try.underlying39 ?ld ?li ?_); (case lx => rfl); (case lc => exact HR.out); (case ld => rfl); (case li => kernel_rfl))
    | ((with_reducible refine wpList_store_row (o := ⟨none, _, _, _, _, _⟩) rfl 39 (.tmp 7) (.tmp 60) rfl w3.heap.size (mcells ⟨ln, kd, nd, gt, ow, wd, gr, false⟩) ?sx ?sy 39 ?old ?sg ?si ?so ?s1 ?_); (case sx => rfl); (case sy => rfl); (case old => exact mcells m0); (case sg => exact heap_alloc_new w3 _); (case si => kernel_rfl); (case so => rfl); (case s1 => kernel_rfl))
    | ((with_reducible refine wpList_load_row (o := ⟨some 68, _, _, _, _, _⟩) rfl 39 (.tmp 7) rfl w3.heap.size ?lx 39 (mcells ⟨ln, kd, nd, gt, ow, wd, gr, false⟩) (0, 0) _ ?lg Try.underlying39 ?ld ?li ?_); (case lx => rfl); (case lg => exact H7.out); (case ld => rfl); (case li => kernel_rfl))
    | ((with_reducible refine wpList_store_row (o := ⟨none, _, _, _, _, _⟩) rfl 39 (.tmp 4) (.tmp 68) rfl w.heap.size (mcells ⟨ln, kd, nd, gt, ow, wd, gr, false⟩) ?sx ?sy 39 ?old ?sg ?si ?so ?s1 ?_); (case sx => rfl); (case sy => rfl); (case old => exact mcells m0); (case sg => exact H3.out); (case si => kernel_rfl); (case so => rfl); (case s1 => kernel_rfl)))
  exact refOwe_ret rfl rfl rfl (setRow_heap _ _ _ _ _ _ H3.out) (HE.out _ _ HB.out)
theorem ret_ofE {x : Ms} {q : Bool} {P : World → Prop} {w : World} {B b : Nat} {room : Int} {v : Value} {r : (Ms × Bool) × List Ms} (e1 : r.1 = (x, q)) (h : ∀ w', P w' → PutGave 52 39 15 mc w B b room r.2 v w') : ∀ e w', RetR x q P e w' → GaveE w B b room v r e w' := fun e w' ⟨h1, h2⟩ => ⟨by rw [h1, e1], h w' h2⟩
theorem refOwe_any {w : World} {B b : Nat} {room k : Int} {l : List Ms} {v : Value} (h : BgD w B b room l v) (gd : Good room k l) (line : Int) :
    Calls Try.prog 26 #[.pointer (some ⟨b, 0, none⟩), .int .i64 line] w (GaveE w B b room v (oweP l line)) := by
  have hl := gd.len
  have hr := gd.r2
  rcases hp : fnd l line with _ | i
  · rw [oweP_none hp]
    exact (refOwe_none h line (by omega) hp).mono (ret_ofE rfl fun _ hb => gave_same h hb)
  · obtain ⟨x, hx, _, hi⟩ := fnd_some hp
    obtain ⟨g, cap, rfl, _⟩ := h.one hx
    rcases Bool.eq_false_or_eq_true (x.os || !came x) with ht | ht
    · rw [oweP_no hp hx ht]
      exact (refOwe_no h line (by omega) hp hx (gd.at hx) ht).mono (ret_ofE rfl fun _ hb => gave_same h hb)
    · rw [oweP_yes hp hx ht]
      exact (refOwe_yes h line (by omega) hp hx (gd.at hx).nd ht).mono (ret_ofE rfl fun _ hb => hb)

end Go.Proofs.Ytcfcgejeiihgnaa
