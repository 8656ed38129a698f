/-
  A law's own array; awake of layer 9 is true.
-/
import Derived.Test.YtldbepaclddgmaaDoorArI
import Derived.Test.YtldbepaclddgmaaDoorArJ
import Derived.Laws.StructEq
import Derived.ChangeKeysEq
import Derived.Lib.QuietBelow
namespace Go.Proofs.YtldbepaclddgmaaDoor
open Go Go.RowKit Go.Sort

/-- Words are the same as themselves. -/
theorem words_same (d : Nat) (x : Wd) (w : World) : (Op.equalIn (d + 2) 35 (.agg (dcells x)) (.agg (dcells x))).run Tryd.prog w = .ok true w := by
  obtain ⟨i0, hi0, hz0, hz1, hz2⟩ := info_parts A3
  rw [run_equalIn_array w (d + 1) _ _ Tryd.underlying35 hi0]
  have hc3 : Tryd.prog.cellsOf 3 = 1 := by kernel_rfl
  rw [hc3]
  have hu := Tryd.underlying3
  simp [Op.eqItems, List.range, List.range.loop, go_sem]
theorem way_eql (x : Wy) (w : World) : (binOp .eql 43 (.agg (ycells x)) (.agg (ycells x))).run Tryd.prog w = .ok (.bool true) w := by
  have ha := fun d => words_same d x.wd
  simp [go_sem, ha]
theorem way_neq (x : Wy) (w : World) : (binOp .neq 43 (.agg (ycells x)) (.agg (ycells x))).run Tryd.prog w = .ok (.bool false) w := by
  have ha := fun d => words_same d x.wd
  simp [go_sem, ha]

theorem balloc (w : World) (o : Obj) : Below w.heap.size w (w.alloc o) := (Below.refl _ _).alloc (Nat.le_refl _) _
/-- A law's own array. -/
structure Own (w : World) (b g : Nat) (c : Cfg) (L : List Wy) (wr : World) : Prop where
  ar : Ar wr b g c L
  gd : Good c L
  bb : w.heap.size ≤ b
  gb : w.heap.size ≤ g
  bl : Below w.heap.size w wr
  tb : Tb w
variable {w wr wr' : World} {b g : Nat} {c : Cfg} {L : List Wy}
theorem Own.step (h : Own w b g c L wr) (hb : Below wr.heap.size wr wr') : Own w b g c L wr' := ⟨h.ar.below hb, h.gd, h.bb, h.gb, bstep h.bl hb, h.tb⟩
theorem Own.tbr (h : Own w b g c L wr) : Tb wr := h.tb.keeps h.bl
theorem Own.gave {e : Ending} {r : Int × List Wy} (h : Own w b g c L wr) (hg : GaveA wr b g c r e wr') (gd : Good c r.2) : Own w b g c r.2 wr' := ⟨hg.ar, gd, h.bb, h.gb, h.bl.trans (hg.turn.below h.gb h.bl.size), h.tb⟩
theorem below_box (wr : World) (o : Obj) (cs : Array Value) : Below wr.heap.size wr ((wr.alloc o).setRow wr.heap.size cs) := below_setRow ((Below.refl _ wr).alloc (Nat.le_refl _) _) (Nat.le_refl _) _
theorem newO (hf : c.fits) (ok : okC c = true) (tb : Tb w) (hb : Below w.heap.size w wr) {L0 : List Wy} (e0 : List.replicate (c.se.toNat * c.wa.toNat) y0 = L0) :
    Calls Tryd.prog 7 #[cv c] wr fun e w' => ∃ b g, e = .returned (.tuple #[.pointer (some ⟨b, 0, none⟩), .int .i64 0]) ∧ Own w b g c L0 w' ∧ Below wr.heap.size wr w' :=
  (new_yes c wr hf ok).mono fun _ _ ⟨b, g, he, ha, h1, h2, h3⟩ => ⟨b, g, he, e0 ▸ ⟨ha, good_new _ _, Nat.le_trans hb.size h1, Nat.le_trans hb.size h2, bstep hb h3, tb⟩, h3⟩
theorem Own.lay (h : Own w b g c L wr) (line way : Int) {n : Int} {M : List Wy} (e : layP c L line way = (n, M)) :
    Calls Tryd.prog 23 #[.pointer (some ⟨b, 0, none⟩), .int .i64 line, .int .i64 way] wr fun e w' => e = .returned (.int .i64 n) ∧ Own w b g c M w' ∧ TurnG g wr w' := by
  have gd := (h.gd.layP h.ar.sz line way).1
  refine (lay_any h.ar h.tbr line way).mono fun e' w' hg => ?_
  have ho := h.gave hg gd
  rw [e] at ho hg
  exact ⟨hg.res, ho, hg.turn⟩
theorem Own.set (h : Own w b g c L wr) (line st : Int) (d : Wd) {n : Int} {M : List Wy} (e : setP c L line st d = (n, M)) :
    Calls Tryd.prog 21 #[.pointer (some ⟨b, 0, none⟩), .int .i64 line, .int .i64 st, .agg (dcells d)] wr fun e w' => e = .returned (.int .i64 n) ∧ Own w b g c M w' ∧ TurnG g wr w' := by
  have gd := (h.gd.setP h.ar.sz line st d).1
  refine (set_any h.ar h.tbr line st d).mono fun e' w' hg => ?_
  have ho := h.gave hg gd
  rw [e] at ho hg
  exact ⟨hg.res, ho, hg.turn⟩
theorem Own.lock (h : Own w b g c L wr) (line : Int) (q : Bool) {n : Int} {M : List Wy} (e : lockP c L line q = (n, M)) :
    Calls Tryd.prog 22 #[.pointer (some ⟨b, 0, none⟩), .int .i64 line, .bool q] wr fun e w' => e = .returned (.int .i64 n) ∧ Own w b g c M w' ∧ TurnG g wr w' := by
  have gd := (h.gd.lockP h.ar.sz line q).1
  refine (lock_any h.ar h.tbr line q).mono fun e' w' hg => ?_
  have ho := h.gave hg gd
  rw [e] at ho hg
  exact ⟨hg.res, ho, hg.turn⟩
theorem Own.op (h : Own w b g c L wr) (x : Ao) {n : Int} {M : List Wy} (e : doP c L x = (n, M)) :
    Calls Tryd.prog 9 #[.pointer (some ⟨b, 0, none⟩), .agg (ocells x)] wr fun e w' => e = .returned (.int .i64 n) ∧ Own w b g c M w' ∧ TurnG g wr w' := by
  have gd := (h.gd.doP h.ar.sz x).1
  refine (do_any h.ar h.tbr x).mono fun e' w' hg => ?_
  have ho := h.gave hg gd
  rw [e] at ho hg
  exact ⟨hg.res, ho, hg.turn⟩
theorem Own.find (h : Own w b g c L wr) (line : Int) {x : Wy} {k : Int} {q : Bool} (e : fnd c L line = (x, k, q)) :
    Calls Tryd.prog 13 #[.pointer (some ⟨b, 0, none⟩), .int .i64 line] wr fun e w' => e = .returned (.tuple #[.agg (ycells x), .int .i64 k, .bool q]) ∧ Below wr.heap.size wr w' := by
  have := find_any h.ar h.tbr line
  rw [e] at this
  exact this

theorem aw_free (h : Own w b g c L wr) (line : Int) {r : Option Nat} (e : fre c L line = r) :
    Calls Tryd.prog 15 #[.pointer (some ⟨b, 0, none⟩), .int .i64 line] wr fun e w' => e = .returned (.int .i64 (oi r)) ∧ Below wr.heap.size wr w' := by
  have := free_any h.ar h.tbr line
  rw [e] at this
  exact this
theorem aw_linesO (h : Own w b g c L wr) {l : List Int} (e : linesP L = l) : Calls Tryd.prog 18 #[.pointer (some ⟨b, 0, none⟩)] wr (GaveL wr l) := by
  have := lines_any h.ar
  rw [e] at this
  exact this

/-- A law's own array, and two boxes with the same way. -/
structure Aw (w : World) (b g : Nat) (c : Cfg) (L : List Wy) (k1 k2 : Nat) (x : Wy) (wr : World) : Prop where
  own : Own w b g c L wr
  h1 : wr.heap[k1]? = some (.cells (ycells x) 43 (0, 0))
  h2 : wr.heap[k2]? = some (.cells (ycells x) 43 (0, 0))
  n1 : k1 ≠ g
  n2 : k2 ≠ g
theorem lt_of_block {w : World} {b : Nat} {o : Obj} (h : w.heap[b]? = some o) : b < w.heap.size := (Array.getElem?_eq_some_iff.1 h).1
theorem Aw.step {k1 k2 : Nat} {x : Wy} (h : Aw w b g c L k1 k2 x wr) (hb : Below wr.heap.size wr wr') : Aw w b g c L k1 k2 x wr' :=
  ⟨h.own.step hb, (hb.block k1 (lt_of_block h.h1)).trans h.h1, (hb.block k2 (lt_of_block h.h2)).trans h.h2, h.n1, h.n2⟩
theorem Aw.turn {k1 k2 : Nat} {x : Wy} {M : List Wy} (h : Aw w b g c L k1 k2 x wr) (ho : Own w b g c M wr') (ht : TurnG g wr wr') : Aw w b g c M k1 k2 x wr' :=
  ⟨ho, (ht.other k1 (lt_of_block h.h1) h.n1).trans h.h1, (ht.other k2 (lt_of_block h.h2) h.n2).trans h.h2, h.n1, h.n2⟩

abbrev cS : Cfg := ⟨1, 1, 2, 1, 2, 8, 0, 1, 1, 1, 1, 1, 1⟩
abbrev cZ : Cfg := ⟨0, 0, 0, 0, 0, 0, 0, 0, 0, 0, 0, 0, 0⟩
theorem ok_S : okC cS = true := by decide +kernel
theorem ok_Z : okC cZ = false := by decide +kernel
abbrev dS : Wd := ⟨3, 4, 0, 0, 0, 0, 0, 0⟩
abbrev xS : Wy := ⟨1, 5, dS, false⟩
theorem aw_lay : layP cS [y0, y0] 5 0 = (0, [y0, newY 5]) := by rfl
theorem aw_set : setP cS [y0, newY 5] 5 1 dS = (0, [y0, ⟨1, 5, dS, true⟩]) := by rfl
theorem aw_lock : lockP cS [y0, ⟨1, 5, dS, true⟩] 5 false = (0, [y0, xS]) := by rfl
theorem aw_find5 : fnd cS [y0, xS] 5 = (xS, 0, true) := by rfl
theorem aw_find4 : fnd cS [y0, xS] 4 = (y0, 0, false) := by rfl
theorem aw_free5 : fre cS [y0, xS] 5 = none := by rfl
theorem aw_free4 : fre cS [y0, xS] 4 = some 0 := by rfl
theorem aw_lay7 : layP cS [y0, xS] 7 0 = (4, [y0, xS]) := by rfl
theorem aw_lay5 : layP cS [y0, xS] 5 0 = (6, [y0, xS]) := by rfl
theorem aw_set4 : setP cS [y0, xS] 4 1 d0 = (5, [y0, xS]) := by rfl
theorem aw_lock4 : lockP cS [y0, xS] 4 true = (5, [y0, xS]) := by rfl
theorem aw_lines : linesP [y0, xS] = [5] := by
  show List.mergeSort [(5 : Int)] _ = [5]
  rw [List.mergeSort_singleton]

set_option maxRecDepth 100000 in
set_option maxHeartbeats 8000000 in
/-- awake: the calls whose answers the document fixes. -/
theorem awake9_any (w : World) (hT : Tb w) :
    Calls Tryd.prog 6 #[] w fun e w' => e = .returned (.bool true) ∧ Below w.heap.size w w' := by
  have HT := Lib.hid hT
  clear hT
  go_enter Tryd.func6, Tryd.ntmps6
  go_wp2_with fail
  refine (newO (c := cS) (L0 := [y0, y0]) (by simp [Cfg.fits]) ok_S HT.out ((Below.refl _ w).alloc (Nat.le_refl _) _) rfl).mono ?_
  rintro e w1 ⟨b, g, rfl, ho, -⟩
  have H1 := Lib.hid ho
  clear ho
  go_wp2_with fail
  refine (new_no cZ _ (by simp [Cfg.fits]) ok_Z).mono ?_
  rintro e w2 ⟨rfl, hb⟩
  have H2 := Lib.hid (H1.out.step hb)
  clear hb H1
  go_wp2_with fail
  refine (H2.out.lay 5 0 aw_lay).mono ?_
  rintro e w3 ⟨rfl, ho, -⟩
  have H3 := Lib.hid ho
  clear ho H2
  go_wp2_with fail
  refine (H3.out.set 5 1 dS aw_set).mono ?_
  rintro e w4 ⟨rfl, ho, -⟩
  have H4 := Lib.hid ho
  clear ho H3
  go_wp2_with fail
  refine (H4.out.lock 5 false aw_lock).mono ?_
  rintro e w5 ⟨rfl, ho, -⟩
  have H5 := Lib.hid ho
  clear ho H4
  go_wp2_with fail
  refine (H5.out.find 5 aw_find5).mono ?_
  rintro e w6 ⟨rfl, hb⟩
  have H6 := Lib.hid (H5.out.step hb)
  clear hb H5
  go_wp2_with (((with_reducible refine wpList_store_row (o := ⟨none, _, _, _, _, _⟩) rfl 43 (.tmp 9) (.tmp 41) rfl w6.heap.size (ycells xS) ?sx ?sy 43 ?old ?sg ?si ?so ?s1 ?_); (case sx => rfl); (case sy => rfl); (case old => exact ycells y0); (case sg => exact heap_alloc_new w6 _); (case si => kernel_rfl); (case so => rfl); (case s1 => kernel_rfl)))
  have ho6 := H6.out.step (below_box w6 (.cells #[.int .i64 0, .int .i64 0, .int .i64 0, .int .i64 0, .int .i64 0, .int .i64 0, .int .i64 0, .int .i64 0, .int .i64 0, .int .i64 0, .bool false] 43) (ycells xS))
  have hx6 : ((w6.alloc (.cells #[.int .i64 0, .int .i64 0, .int .i64 0, .int .i64 0, .int .i64 0, .int .i64 0, .int .i64 0, .int .i64 0, .int .i64 0, .int .i64 0, .bool false] 43)).setRow w6.heap.size (ycells xS)).heap[w6.heap.size]? = some (.cells (ycells xS) 43 (0, 0)) := setRow_heap _ _ _ _ _ _ (heap_alloc_new w6 _)
  have hn6 : w6.heap.size ≠ g := by have := H6.out.ar.gl; omega
  have H7 := Lib.hid (Aw.mk ho6 hx6 hx6 hn6 hn6)
  clear ho6 hx6 hn6 H6
  generalize (w6.alloc (.cells #[.int .i64 0, .int .i64 0, .int .i64 0, .int .i64 0, .int .i64 0, .int .i64 0, .int .i64 0, .int .i64 0, .int .i64 0, .int .i64 0, .bool false] 43)).setRow w6.heap.size (ycells xS) = w7 at *
  generalize w6.heap.size = k1 at *
  go_wp2_with fail
  refine (H7.out.own.find 4 aw_find4).mono ?_
  rintro e w8 ⟨rfl, hb⟩
  have H8 := Lib.hid (H7.out.step hb)
  clear hb H7
  go_wp2_with (((with_reducible refine wpList_store_row (o := ⟨none, _, _, _, _, _⟩) rfl 43 (.tmp 12) (.tmp 47) rfl w8.heap.size (ycells y0) ?sx ?sy 43 ?old ?sg ?si ?so ?s1 ?_); (case sx => rfl); (case sy => rfl); (case old => exact ycells y0); (case sg => exact heap_alloc_new w8 _); (case si => kernel_rfl); (case so => rfl); (case s1 => kernel_rfl)))
  have H9 := Lib.hid (H8.out.step (below_box w8 (.cells #[.int .i64 0, .int .i64 0, .int .i64 0, .int .i64 0, .int .i64 0, .int .i64 0, .int .i64 0, .int .i64 0, .int .i64 0, .int .i64 0, .bool false] 43) (ycells y0)))
  clear H8
  generalize (w8.alloc (.cells #[.int .i64 0, .int .i64 0, .int .i64 0, .int .i64 0, .int .i64 0, .int .i64 0, .int .i64 0, .int .i64 0, .int .i64 0, .int .i64 0, .bool false] 43)).setRow w8.heap.size (ycells y0) = w9 at *
  generalize w8.heap.size = k0 at *
  go_wp2_with fail
  refine (at_yes H9.out.own.ar 1 0 xS (by decide) (by decide) rfl).mono ?_
  rintro e w10 ⟨rfl, hb⟩
  have H10 := Lib.hid (H9.out.step hb)
  clear hb H9
  have ho := H10.out.own.step (below_box w10 (.cells #[.int .i64 0, .int .i64 0, .int .i64 0, .int .i64 0, .int .i64 0, .int .i64 0, .int .i64 0, .int .i64 0, .int .i64 0, .int .i64 0, .bool false] 43) (ycells xS))
  have h1 := (below_box w10 (.cells #[.int .i64 0, .int .i64 0, .int .i64 0, .int .i64 0, .int .i64 0, .int .i64 0, .int .i64 0, .int .i64 0, .int .i64 0, .int .i64 0, .bool false] 43) (ycells xS)).block k1 (lt_of_block H10.out.h1) |>.trans H10.out.h1
  have h2 : ((w10.alloc (.cells #[.int .i64 0, .int .i64 0, .int .i64 0, .int .i64 0, .int .i64 0, .int .i64 0, .int .i64 0, .int .i64 0, .int .i64 0, .int .i64 0, .bool false] 43)).setRow w10.heap.size (ycells xS)).heap[w10.heap.size]? = some (.cells (ycells xS) 43 (0, 0)) := setRow_heap _ _ _ _ _ _ (heap_alloc_new w10 _)
  have hn : w10.heap.size ≠ g := by have := H10.out.own.ar.gl; omega
  have H11 := Lib.hid (Aw.mk ho h1 h2 H10.out.n1 hn)
  clear ho h1 h2 hn H10
  have hq := way_eql xS
  go_wp2_with (((with_reducible refine wpList_store_row (o := ⟨none, _, _, _, _, _⟩) rfl 43 (.tmp 15) (.tmp 53) rfl w10.heap.size (ycells xS) ?sx ?sy 43 ?old ?sg ?si ?so ?s1 ?_); (case sx => rfl); (case sy => rfl); (case old => exact ycells y0); (case sg => exact heap_alloc_new w10 _); (case si => kernel_rfl); (case so => rfl); (case s1 => kernel_rfl)); generalize (w10.alloc (.cells #[.int .i64 0, .int .i64 0, .int .i64 0, .int .i64 0, .int .i64 0, .int .i64 0, .int .i64 0, .int .i64 0, .int .i64 0, .int .i64 0, .bool false] 43)).setRow w10.heap.size (ycells xS) = w11 at *; generalize w10.heap.size = k2 at *; have hA := blk_cells H11.out.h1; have hB := blk_cells H11.out.h2)
  refine (aw_free (H11.out.own) 5 aw_free5).mono ?_
  rintro e w12 ⟨rfl, hb⟩
  clear hA hB
  have H12 := Lib.hid (H11.out.step hb)
  clear hb H11
  have hA := blk_cells H12.out.h1
  have hB := blk_cells H12.out.h2
  go_wp2_with fail
  refine (aw_free (H12.out.own) 4 aw_free4).mono ?_
  rintro e w13 ⟨rfl, hb⟩
  clear hA hB
  have H13 := Lib.hid (H12.out.step hb)
  clear hb H12
  have hA := blk_cells H13.out.h1
  have hB := blk_cells H13.out.h2
  go_wp2_with fail
  refine (H13.out.own.lay 7 0 aw_lay7).mono ?_
  rintro e w14 ⟨rfl, ho, ht⟩
  clear hA hB
  have H14 := Lib.hid (H13.out.turn ho ht)
  clear ho ht H13
  have hA := blk_cells H14.out.h1
  have hB := blk_cells H14.out.h2
  go_wp2_with fail
  refine (H14.out.own.lay 5 0 aw_lay5).mono ?_
  rintro e w15 ⟨rfl, ho, ht⟩
  clear hA hB
  have H15 := Lib.hid (H14.out.turn ho ht)
  clear ho ht H14
  have hA := blk_cells H15.out.h1
  have hB := blk_cells H15.out.h2
  go_wp2_with fail
  refine (H15.out.own.set 4 1 d0 aw_set4).mono ?_
  rintro e w16 ⟨rfl, ho, ht⟩
  clear hA hB
  have H16 := Lib.hid (H15.out.turn ho ht)
  clear ho ht H15
  have hA := blk_cells H16.out.h1
  have hB := blk_cells H16.out.h2
  go_wp2_with fail
  refine (H16.out.own.lock 4 true aw_lock4).mono ?_
  rintro e w17 ⟨rfl, ho, ht⟩
  clear hA hB
  have H17 := Lib.hid (H16.out.turn ho ht)
  clear ho ht H16
  have hA := blk_cells H17.out.h1
  have hB := blk_cells H17.out.h2
  go_wp2_with fail
  refine (aw_linesO H17.out.own aw_lines).mono ?_
  rintro e w18 ⟨p, cap, rfl, hin, hb⟩
  have hn := (hin.step (balloc w18 (.cells #[.int .i64 5] 3)))
  have hm : NumsIn (w18.alloc (.cells #[.int .i64 5] 3)) (some ⟨w18.heap.size, 0, none⟩) [5] := NumsIn.of_cells (by simp) (fun j hj => by
    have : j = 0 := by simpa using hj
    subst this
    exact World.cell?_alloc_mark w18 #[.int .i64 5] 3 (0, 0) 0)
  have HN := Lib.hid hn
  have HM := Lib.hid hm
  have HB := Lib.hid ((bstep H17.out.own.bl hb).alloc (bstep H17.out.own.bl hb).size (.cells #[.int .i64 5] 3))
  clear hb H17 hin hA hB hn hm
  go_wp2_with fail
  refine (same_any p (some ⟨w18.heap.size, 0, none⟩) cap 1 [5] [5] _ (by simp) HN.out HM.out).mono ?_
  rintro e w19 ⟨rfl, n, rfl⟩
  go_wp2
  go_ret
  exact ⟨rfl, below_drewN HB.out n⟩

end Go.Proofs.YtldbepaclddgmaaDoor
