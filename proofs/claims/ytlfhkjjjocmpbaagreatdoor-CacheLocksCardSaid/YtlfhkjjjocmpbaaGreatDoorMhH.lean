/-
  Owe; and copy of many cells within a row.
-/
import Derived.Test.YtlfhkjjjocmpbaaGreatDoorMhG
namespace Go.Proofs.YtlfhkjjjocmpbaaGreatDoor.Mh
open Go Go.RowKit

/-- A store, and then a new block's row. -/
theorem gave_store_row {T e : TypeId} {w w1 : World} {B b : Nat} {room : Int} {l : List Ms} {g cap : Nat} (h : Bg T e 15 mc w B b room l (.slice (some ⟨g, 0, none⟩) l.length cap)) (hb : Below w.heap.size w w1) {i : Nat} {x : Ms} (hx : l[i]? = some x) (y : Ms) (j : Nat) (vs : List Value) (hj : j + vs.length ≤ 15)
    (hin : ∀ m, m < vs.length → (mc y)[j + m]? = vs[m]?) (hout : ∀ m, m < 15 → m < j ∨ j + vs.length ≤ m → (mc y)[m]? = (mc x)[m]?) (k : Nat) (hk : w.heap.size ≤ k) (cs : Array Value) : PutGave T e 15 mc w B b room (l.set i y) (.slice (some ⟨g, 0, none⟩) l.length cap) ((w1.setCells g (i * 15 + j) vs).setRow k cs) := by
  have hs := (h.below hb).store hx y j vs hj hin hout
  have ht := (Turn.of_below hb).trans (turn_setCells (b := b) (g := g) (n := l.length) (cap := cap) (i * 15 + j) vs w1) (Fresh.refl _ _)
  have hbl := h.lt
  have hgl := (h.row.lt g rfl).2
  refine ⟨_, hs.keep (setRow_other _ k b cs (by omega)) (fun q hq => setRow_other _ k q cs (by simp only [Value.ownBlock, Option.some.injEq] at hq; omega)), ⟨ht.os, ht.tape, ht.output, by have := ht.size; simpa using this, fun q hq h1 h2 => (setRow_other _ k q cs (by omega)).trans (ht.other q hq h1 h2)⟩, Fresh.refl _ _⟩

theorem At1.cellsF {w : World} {g i : Nat} {ln kd nd gt ow : Int} {wd : Wd} {gr os : Bool} (h : At1 w g i ⟨ln, kd, nd, gt, ow, wd, gr, os⟩) : w.cell? ⟨g, i * 15, none⟩ = some (.int .i64 ln) ∧ w.cell? ⟨g, i * 15 + 1, none⟩ = some (.int .i64 kd) ∧ w.cell? ⟨g, i * 15 + 2, none⟩ = some (.int .i64 nd) ∧ w.cell? ⟨g, i * 15 + 3, none⟩ = some (.int .i64 gt) ∧ w.cell? ⟨g, i * 15 + 4, none⟩ = some (.int .i64 ow) ∧ w.cell? ⟨g, i * 15 + 5, none⟩ = some (.int .i64 wd.w0) ∧ w.cell? ⟨g, i * 15 + 6, none⟩ = some (.int .i64 wd.w1) ∧ w.cell? ⟨g, i * 15 + 7, none⟩ = some (.int .i64 wd.w2) ∧ w.cell? ⟨g, i * 15 + 8, none⟩ = some (.int .i64 wd.w3) ∧ w.cell? ⟨g, i * 15 + 9, none⟩ = some (.int .i64 wd.w4) ∧ w.cell? ⟨g, i * 15 + 10, none⟩ = some (.int .i64 wd.w5) ∧ w.cell? ⟨g, i * 15 + 11, none⟩ = some (.int .i64 wd.w6) ∧ w.cell? ⟨g, i * 15 + 12, none⟩ = some (.int .i64 wd.w7) ∧ w.cell? ⟨g, i * 15 + 13, none⟩ = some (.bool gr) ∧ w.cell? ⟨g, i * 15 + 14, none⟩ = some (.bool os) := h.cells
/-- What Owe gives. -/
def GaveO (w : World) (B b : Nat) (room : Int) (v : Value) (r : (Ms × Bool) × List Ms) (e : Ending) (w' : World) : Prop :=
  e = .returned (.tuple #[.agg (mcells r.1.1), .bool r.1.2]) ∧ PutGave 151 117 15 mc w B b room r.2 v w'
theorem ret_of {x : Ms} {q : Bool} {P : World → Prop} {w : World} {B b : Nat} {room : Int} {v : Value} {r : (Ms × Bool) × List Ms} (e1 : r.1 = (x, q)) (h : ∀ w', P w' → PutGave 151 117 15 mc w B b room r.2 v w') : ∀ e w', RetM x q P e w' → GaveO w B b room v r e w' := fun e w' ⟨h1, h2⟩ => ⟨by rw [h1, e1], h w' h2⟩

set_option maxHeartbeats 2000000 in
theorem owe_none {w : World} {B b : Nat} {room : Int} {l : List Ms} {v : Value} (h : BgP w B b room l v) (line : Int) (hl : l.length ≤ 5000) (hp : fnd l line = none) :
    Calls Tryz.prog 156 #[.pointer (some ⟨b, 0, none⟩), .int .i64 line] w (RetM m0 false (Below w.heap.size w)) := by
  have HP := Lib.hid (fun (o : Obj) => firstL_no (h.below (balloc2 w o (.cells #[.int .i64 line] 3))) ⟨w.heap.size + 1, 0, none⟩ line hl (line_at w o line) (by simp) hp)
  clear h hp
  go_enter Tryz.func156, Tryz.ntmps156
  go_wp2_with fail
  refine (ofLine_any line _).mono ?_
  rintro e w1 ⟨rfl, rfl⟩
  go_wp2_with fail
  refine (HP.out _).mono ?_
  rintro e w1 ⟨rfl, hb1⟩
  have hb2 := bstep (balloc _ _) hb1
  clear hb1
  go_wp2_with ((with_reducible refine wpList_store_row (o := ⟨none, _, _, _, _, _⟩) rfl 117 (.tmp 4) (.tmp 27) rfl w.heap.size (mcells m0) ?sx ?sy 117 ?old ?sg ?si ?so ?s1 ?_); (case sx => rfl); (case sy => rfl); (case old => exact mcells m0); (case sg => exact box_at hb2); (case si => kernel_rfl); (case so => rfl); (case s1 => kernel_rfl))
  exact owe_ret rfl rfl rfl (setRow_heap _ _ _ _ _ _ (box_at hb2)) (below_setRow (bbox hb2) (Nat.le_refl _) _)

set_option maxHeartbeats 2000000 in
theorem owe_no {w : World} {B b : Nat} {room : Int} {l : List Ms} {g cap : Nat} (h : BgP w B b room l (.slice (some ⟨g, 0, none⟩) l.length cap)) (line : Int) (hl : l.length ≤ 5000) {i : Nat} {x : Ms} (hp : fnd l line = some i) (hx : l[i]? = some x) (ht : (x.os || !came x) = true) :
    Calls Tryz.prog 156 #[.pointer (some ⟨b, 0, none⟩), .int .i64 line] w (RetM m0 false (Below w.heap.size w)) := by
  have hi := (List.getElem?_eq_some_iff.1 hx).1
  have HP := Lib.hid (fun (o : Obj) => firstL_yes (h.below (balloc2 w o (.cells #[.int .i64 line] 3))) ⟨w.heap.size + 1, 0, none⟩ line hl (line_at w o line) (by simp) hp hi)
  have HA := Lib.hid (fun w1 (hb : Below w.heap.size w w1) => (h.below hb).at1 hx)
  have hcs : x.os = true ∨ x.os = false ∧ came x = false := by
    rcases Bool.eq_false_or_eq_true x.os with e | e
    · exact .inl e
    · exact .inr ⟨e, by simpa [e] using ht⟩
  clear h hp hx ht
  rcases hcs with hos | ⟨hos, hcm⟩
  · have HO := Lib.hid hos
    clear hos
    go_enter Tryz.func156, Tryz.ntmps156
    go_wp2_with fail
    refine (ofLine_any line _).mono ?_
    rintro e w1 ⟨rfl, rfl⟩
    go_wp2_with fail
    refine (HP.out _).mono ?_
    rintro e w1 ⟨rfl, hb1⟩
    have hb2 := bstep (balloc _ _) hb1
    clear hb1
    obtain ⟨-, -, -, -, -, -, -, -, -, -, -, -, -, -, q14⟩ := (HA.out _ (bbox hb2)).cells
    rw [HO.out] at q14
    go_wp2_with ((with_reducible refine wpList_store_row (o := ⟨none, _, _, _, _, _⟩) rfl 117 (.tmp 4) (.tmp 27) rfl w.heap.size (mcells m0) ?sx ?sy 117 ?old ?sg ?si ?so ?s1 ?_); (case sx => rfl); (case sy => rfl); (case old => exact mcells m0); (case sg => exact box_at hb2); (case si => kernel_rfl); (case so => rfl); (case s1 => kernel_rfl))
    exact owe_ret rfl rfl rfl (setRow_heap _ _ _ _ _ _ (box_at hb2)) (below_setRow (bbox hb2) (Nat.le_refl _) _)
  · obtain ⟨ln, kd, nd, gt, ow, wd, gr, os⟩ := x
    obtain rfl : os = false := hos
    have HC := Lib.hid hcm
    clear hcm
    go_enter Tryz.func156, Tryz.ntmps156
    go_wp2_with fail
    refine (ofLine_any line _).mono ?_
    rintro e w1 ⟨rfl, rfl⟩
    go_wp2_with fail
    refine (HP.out _).mono ?_
    rintro e w1 ⟨rfl, hb1⟩
    have hb2 := bstep (balloc _ _) hb1
    clear hb1
    obtain ⟨q0, q1, q2, q3, q4, q5, q6, q7, q8, q9, q10, q11, q12, q13, q14⟩ := (HA.out _ (bbox hb2)).cellsF
    go_wp2_with fail
    refine (came_any ⟨ln, kd, nd, gt, ow, wd, gr, false⟩ _).mono ?_
    rintro e w3 ⟨rfl, hb3⟩
    rw [HC.out]
    have hb4 := bstep hb2 hb3
    clear hb3 hb2 q0 q1 q2 q3 q4 q5 q6 q7 q8 q9 q10 q11 q12 q13 q14
    go_wp2_with ((with_reducible refine wpList_store_row (o := ⟨none, _, _, _, _, _⟩) rfl 117 (.tmp 4) (.tmp 27) rfl w.heap.size (mcells m0) ?sx ?sy 117 ?old ?sg ?si ?so ?s1 ?_); (case sx => rfl); (case sy => rfl); (case old => exact mcells m0); (case sg => exact box_at hb4); (case si => kernel_rfl); (case so => rfl); (case s1 => kernel_rfl))
    exact owe_ret rfl rfl rfl (setRow_heap _ _ _ _ _ _ (box_at hb4)) (below_setRow (bbox hb4) (Nat.le_refl _) _)

set_option maxHeartbeats 2000000 in
theorem owe_yes {w : World} {B b : Nat} {room : Int} {l : List Ms} {g cap : Nat} (h : BgP w B b room l (.slice (some ⟨g, 0, none⟩) l.length cap)) (line : Int) (hl : l.length ≤ 5000) {i : Nat} {x : Ms} (hp : fnd l line = some i) (hx : l[i]? = some x) (ht : (x.os || !came x) = false) :
    Calls Tryz.prog 156 #[.pointer (some ⟨b, 0, none⟩), .int .i64 line] w (RetM x true (PutGave 151 117 15 mc w B b room (l.set i (owesY x)) (.slice (some ⟨g, 0, none⟩) l.length cap))) := by
  have hi := (List.getElem?_eq_some_iff.1 hx).1
  have HP := Lib.hid (fun (o : Obj) => firstL_yes (h.below (balloc2 w o (.cells #[.int .i64 line] 3))) ⟨w.heap.size + 1, 0, none⟩ line hl (line_at w o line) (by simp) hp hi)
  have HA := Lib.hid (fun w1 (hb : Below w.heap.size w w1) => ((h.below hb).at1 hx))
  have hos : x.os = false := by simp at ht; exact ht.1
  have hcm : came x = true := by simp at ht; exact ht.2
  have hgl := (h.row.lt g rfl).2
  have HE : Hid (∀ w1 (cs : Array Value), Below w.heap.size w w1 → PutGave 151 117 15 mc w B b room (l.set i (owesY x)) (.slice (some ⟨g, 0, none⟩) l.length cap) ((w1.setCell ⟨g, i * 15 + 14, none⟩ (.bool true)).setRow w.heap.size cs)) := Lib.hid (fun w1 cs hb =>
    gave_store_row h hb hx (owesY x) 14 [.bool true] (by simp) (fun m hm => by simp at hm; subst hm; rfl) (fun m hm hm2 => by
      simp at hm2
      rcases (show m = 0 ∨ m = 1 ∨ m = 2 ∨ m = 3 ∨ m = 4 ∨ m = 5 ∨ m = 6 ∨ m = 7 ∨ m = 8 ∨ m = 9 ∨ m = 10 ∨ m = 11 ∨ m = 12 ∨ m = 13 by omega) with rfl | rfl | rfl | rfl | rfl | rfl | rfl | rfl | rfl | rfl | rfl | rfl | rfl | rfl
      all_goals rfl) w.heap.size (Nat.le_refl _) cs)
  have HC := Lib.hid hcm
  clear h hp hx ht hcm
  obtain ⟨ln, kd, nd, gt, ow, wd, gr, os⟩ := x
  obtain rfl : os = false := hos
  go_enter Tryz.func156, Tryz.ntmps156
  go_wp2_with fail
  refine (ofLine_any line _).mono ?_
  rintro e w1 ⟨rfl, rfl⟩
  go_wp2_with fail
  refine (HP.out _).mono ?_
  rintro e w1 ⟨rfl, hb1⟩
  have hb2 := bstep (balloc _ _) hb1
  clear hb1
  obtain ⟨q0, q1, q2, q3, q4, q5, q6, q7, q8, q9, q10, q11, q12, q13, q14⟩ := (HA.out _ (bbox hb2)).cellsF
  go_wp2_with fail
  refine (came_any ⟨ln, kd, nd, gt, ow, wd, gr, false⟩ _).mono ?_
  rintro e w3 ⟨rfl, hb3⟩
  rw [HC.out]
  have hb4 := bstep hb2 hb3
  have hz4 := zbox hb4
  clear hb3 hb2 q0 q1 q2 q3 q4 q5 q6 q7 q8 q9 q10 q11 q12 q13 q14
  have HR := Lib.hid (HA.out _ (bbox hb4)).row
  have HB := Lib.hid (bstep (bbox hb4) (below_setRow (balloc w3 (.cells #[.int .i64 0, .int .i64 0, .int .i64 0, .int .i64 0, .int .i64 0, .int .i64 0, .int .i64 0, .int .i64 0, .int .i64 0, .int .i64 0, .int .i64 0, .int .i64 0, .int .i64 0, .bool false, .bool false] 117)) (Nat.le_refl _) (mcells ⟨ln, kd, nd, gt, ow, wd, gr, false⟩)))
  have HN := HA.out _ HB.out
  have c14 := HN.row 14 _ rfl
  have f14 := HN.fz (i * 15 + 14)
  have hbx := (Below.heap_alloc w3 (.cells #[.int .i64 0, .int .i64 0, .int .i64 0, .int .i64 0, .int .i64 0, .int .i64 0, .int .i64 0, .int .i64 0, .int .i64 0, .int .i64 0, .int .i64 0, .int .i64 0, .int .i64 0, .bool false, .bool false] 117) w.heap.size hz4).trans (box_at hb4)
  have hbx2 := (setRow_other (w3.alloc (.cells #[.int .i64 0, .int .i64 0, .int .i64 0, .int .i64 0, .int .i64 0, .int .i64 0, .int .i64 0, .int .i64 0, .int .i64 0, .int .i64 0, .int .i64 0, .int .i64 0, .int .i64 0, .bool false, .bool false] 117)) w3.heap.size w.heap.size (mcells ⟨ln, kd, nd, gt, ow, wd, gr, false⟩) (by omega)).trans hbx
  have hbx3 := (heap_setCell_other _ ⟨g, i * 15 + 14, none⟩ w.heap.size (.bool true) (by simp only; omega)).trans hbx2
  have hg3 : w3.heap.size ≠ g := by omega
  have hb7 := (heap_setCell_other _ ⟨g, i * 15 + 14, none⟩ w3.heap.size (.bool true) (by simp only; omega)).trans (setRow_heap _ _ _ (mcells ⟨ln, kd, nd, gt, ow, wd, gr, false⟩) _ _ (heap_alloc_new w3 (.cells #[.int .i64 0, .int .i64 0, .int .i64 0, .int .i64 0, .int .i64 0, .int .i64 0, .int .i64 0, .int .i64 0, .int .i64 0, .int .i64 0, .int .i64 0, .int .i64 0, .int .i64 0, .bool false, .bool false] 117)))
  have H7 := Lib.hid hb7
  have H3 := Lib.hid hbx3
  clear HN hbx hbx2 hbx3 hb7
  go_wp2_with (first
    | ((with_reducible refine wpList_load_mid (op := ⟨some 30, _, _, _, _, _⟩) rfl 117 (.tmp 29) rfl g (i * 15) ?lx (mc ⟨ln, kd, nd, gt, ow, wd, gr, false⟩) _ ?lc Tryz.underlying117 ?ld ?li ?_); (case lx => rfl); (case lc => exact HR.out); (case ld => rfl); (case li => kernel_rfl))
    | ((with_reducible refine wpList_store_row (o := ⟨none, _, _, _, _, _⟩) rfl 117 (.tmp 7) (.tmp 30) rfl w3.heap.size (mcells ⟨ln, kd, nd, gt, ow, wd, gr, false⟩) ?sx ?sy 117 ?old ?sg ?si ?so ?s1 ?_); (case sx => rfl); (case sy => rfl); (case old => exact mcells m0); (case sg => exact heap_alloc_new w3 _); (case si => kernel_rfl); (case so => rfl); (case s1 => kernel_rfl))
    | ((with_reducible refine wpList_load_row (o := ⟨some 34, _, _, _, _, _⟩) rfl 117 (.tmp 7) rfl w3.heap.size ?lx 117 (mcells ⟨ln, kd, nd, gt, ow, wd, gr, false⟩) (0, 0) _ ?lg Tryz.underlying117 ?ld ?li ?_); (case lx => rfl); (case lg => exact H7.out); (case ld => rfl); (case li => kernel_rfl))
    | ((with_reducible refine wpList_store_row (o := ⟨none, _, _, _, _, _⟩) rfl 117 (.tmp 4) (.tmp 34) rfl w.heap.size (mcells ⟨ln, kd, nd, gt, ow, wd, gr, false⟩) ?sx ?sy 117 ?old ?sg ?si ?so ?s1 ?_); (case sx => rfl); (case sy => rfl); (case old => exact mcells m0); (case sg => exact H3.out); (case si => kernel_rfl); (case so => rfl); (case s1 => kernel_rfl)))
  exact owe_ret rfl rfl rfl (setRow_heap _ _ _ _ _ _ H3.out) (HE.out _ _ HB.out)

/-- Owe. -/
theorem owe_any {w : World} {B b : Nat} {room : Int} {l : List Ms} {v : Value} (h : BgP w B b room l v) (line : Int) (hl : l.length ≤ 5000) :
    Calls Tryz.prog 156 #[.pointer (some ⟨b, 0, none⟩), .int .i64 line] w (GaveO w B b room v (oweP l line)) := by
  rcases hp : fnd l line with _ | i
  · rw [oweP_none hp]
    exact (owe_none h line hl hp).mono (ret_of rfl fun _ hb => gave_same h hb)
  · obtain ⟨x, hx, _, hi⟩ := fnd_some hp
    obtain ⟨g, cap, rfl, _⟩ := h.one hx
    rcases Bool.eq_false_or_eq_true (x.os || !came x) with ht | ht
    · rw [oweP_no hp hx ht]
      exact (owe_no h line hl hp hx ht).mono (ret_of rfl fun _ hb => gave_same h hb)
    · rw [oweP_yes hp hx ht]
      exact (owe_yes h line hl hp hx ht).mono (ret_of rfl fun _ hb => hb)

end Go.Proofs.YtlfhkjjjocmpbaaGreatDoor.Mh
