import Derived.Test.YtlfhkjjjocmpbaaGreatDoorQLayMh
import Derived.Laws.AppendOwnNone
import Derived.Test.YtlfhkjjjocmpbaaGreatDoorQGaH

namespace Go.Proofs.YtlfhkjjjocmpbaaGreatDoor.Mh
open Go Go.RowKit

theorem refNew_yes (room : Int) (w : World) (h : 1 ≤ room) (h2 : room ≤ 8) :
  Calls Tryz.prog 34 #[.int .i64 room] w fun e w' => e = .returned (.tuple #[.pointer (some ⟨w.heap.size, 0, none⟩), .int .i64 0]) ∧ w.alloc (.cells #[.int .i64 room, .slice none 0 0] 62) = w' := by
 go_enter Tryz.func34, Tryz.ntmps34
 go_wp2
 go_ret2
 exact ⟨rfl, rfl⟩

set_option maxHeartbeats 1000000 in
theorem refPlace_any {w : World} {B b : Nat} {room : Int} {l : List Ms} {v : Value} (h : BgD w B b room l v) (line : Int) (hl : l.length ≤ 5000) :
  Calls Tryz.prog 126 #[.pointer (some ⟨b, 0, none⟩), .int .i64 line] w fun e w' => e = .returned (.int .i64 (oi (fnd l line))) ∧ w = w' := by
 obtain ⟨q, cap, rfl, hin⟩ := h.ins
 have c1 := blk_cell h.blk 1
 simp at c1
 have HI := Lib.hid hin
 clear h hin
 go_enter Tryz.func126, Tryz.ntmps126
 go_wp2
 go_loop [5] (fun i => ∃ k : Nat, k ≤ l.length ∧ i = .int .i64 k ∧ Hid (∀ (j : Nat) (x : Ms), j < k → l[j]? = some x → isL line x = false)) (fun i => l.length - (intOf i).toNat)
 case atStart => exact ⟨0, by omega, rfl, Lib.hid (fun j x hj => by omega)⟩
 case round =>
  obtain ⟨k, hk, rfl, HJ⟩ := hrel
  by_cases hlt : k < l.length
  ·obtain ⟨x, hx⟩ : ∃ x, l[k]? = some x := ⟨_, List.getElem?_eq_getElem hlt⟩
   obtain ⟨g, rfl, hg, hr⟩ := HI.out k x hx
   have c0 := hr 0 _ rfl
   rw [Nat.add_zero] at c0
   have HX := Lib.hid hx
   clear hx hr
   rcases Bool.eq_false_or_eq_true (x.ln == line) with he | he
   ·have HT : Hid (oi (fnd l line) = k) := Lib.hid (by unfold fnd; rw [find_some HX.out (by simpa [isL] using he) HJ.out]; rfl)
    go_wp2
    go_ret
    exact ⟨ret_int HT.out.symm, rfl⟩
   ·have HK : Hid (∀ (j : Nat) (y : Ms), j < k + 1 → l[j]? = some y → isL line y = false) := Lib.hid (fun j y hj hy => by
     by_cases e : j = k
     ·subst e
      obtain rfl : x = y := Option.some.inj (HX.out.symm.trans hy)
      exact he
     ·exact HJ.out j y (by omega) hy)
    go_wp2
    go_round
    case rel => exact ⟨k + 1, by omega, by go_num, HK⟩
    case measure => simp [intOf]; omega
  ·have HT : Hid (oi (fnd l line) = -1) := Lib.hid (by unfold fnd; rw [find_none (fun j x hx => HJ.out j x (by have := (List.getElem?_eq_some_iff.1 hx).1; omega) hx)]; rfl)
   go_wp2
   go_ret
   exact ⟨ret_int HT.out.symm, rfl⟩
set_option maxHeartbeats 1000000 in
theorem refOwing_any {w : World} {B b : Nat} {room : Int} {l : List Ms} {v : Value} (h : BgD w B b room l v) (hl : l.length ≤ 5000) :
  Calls Tryz.prog 88 #[.pointer (some ⟨b, 0, none⟩)] w fun e w' => e = .returned (.tuple #[.int .i64 (owingP l).1, .bool (owingP l).2]) ∧ w = w' := by
 obtain ⟨q, cap, rfl, hin⟩ := h.ins
 have c1 := blk_cell h.blk 1
 simp at c1
 have HI := Lib.hid hin
 clear h hin
 go_enter Tryz.func88, Tryz.ntmps88
 go_wp2
 go_loop [4] (fun i => ∃ k : Nat, k ≤ l.length ∧ i = .int .i64 k ∧ Hid (∀ (j : Nat) (x : Ms), j < k → l[j]? = some x → x.os = false)) (fun i => l.length - (intOf i).toNat)
 case atStart => exact ⟨0, by omega, rfl, Lib.hid (fun j x hj => by omega)⟩
 case round =>
  obtain ⟨k, hk, rfl, HJ⟩ := hrel
  by_cases hlt : k < l.length
  ·obtain ⟨x, hx⟩ : ∃ x, l[k]? = some x := ⟨_, List.getElem?_eq_getElem hlt⟩
   obtain ⟨g, rfl, hg, hr⟩ := HI.out k x hx
   have c0 := hr 0 _ rfl
   rw [Nat.add_zero] at c0
   have c14 := hr 14 _ rfl
   have HX := Lib.hid hx
   clear hx hr
   rcases Bool.eq_false_or_eq_true x.os with he | he
   ·have HT : Hid (owingP l = (x.ln, true)) := Lib.hid (owingP_yes (find_some HX.out he HJ.out) HX.out)
    rw [he] at c14
    clear he
    go_wp2
    go_ret2
    rw [HT.out]
    exact ⟨rfl, rfl⟩
   ·have HK : Hid (∀ (j : Nat) (y : Ms), j < k + 1 → l[j]? = some y → y.os = false) := Lib.hid (fun j y hj hy => by
     by_cases e : j = k
     ·subst e
      obtain rfl : x = y := Option.some.inj (HX.out.symm.trans hy)
      exact he
     ·exact HJ.out j y (by omega) hy)
    rw [he] at c14
    clear he
    go_wp2
    go_round
    case rel => exact ⟨k + 1, by omega, by go_num, HK⟩
    case measure => simp [intOf]; omega
  ·have HT : Hid (owingP l = (0, false)) := Lib.hid (owingP_none (find_none (fun j x hx => HJ.out j x (by have := (List.getElem?_eq_some_iff.1 hx).1; omega) hx)))
   go_wp2
   go_ret2
   rw [HT.out]
   exact ⟨rfl, rfl⟩

def RetR (x : Ms) (q : Bool) (P : World → Prop) (e : Ending) (w' : World) : Prop := e = .returned (.tuple #[.agg (mcells x), .bool q]) ∧ P w'
theorem refGet_ret {wr : World} {x : Ms} {q : Bool} {P : World → Prop} {a : Act} {g : Nat} (hp : a.tmps.getD 4 undef = .pointer (some ⟨g, 0, none⟩)) (hq : a.tmps.getD 5 undef = .bool q) (hd : a.defers = []) (hg : wr.heap[g]? = some (.cells (mcells x) 75 (0, 0))) (hb : P wr) :
  bodyPost Tryz.prog Tryz.f70 (RetR x q P) Exit.ret a wr :=
 bodyPost_ret (v := .tuple #[.agg (mcells x), a.tmps.getD 5 undef]) (results_cell_two Tryz.results70 _ _ g 75 _ (0, 0) _ hp hg Tryz.underlying75 rfl (by kernel_rfl)) hd ⟨by rw [hq], hb⟩
set_option maxHeartbeats 1000000 in
theorem refGet_any {w : World} {B b : Nat} {room : Int} {l : List Ms} {v : Value} (h : BgD w B b room l v) (line : Int) (hl : l.length ≤ 5000) :
  Calls Tryz.prog 70 #[.pointer (some ⟨b, 0, none⟩), .int .i64 line] w (RetR (getP l line).1 (getP l line).2 (Below w.heap.size w)) := by
 have HP := fun (o : Obj) => refPlace_any (h.below (balloc w o)) line hl
 rcases hp : fnd l line with _ | i
 ·rw [hp] at HP
  rw [getP_none hp]
  have HP := Lib.hid HP
  clear h hp
  go_enter Tryz.func70, Tryz.ntmps70
  go_wp2_with fail
  refine (HP.out _).mono ?_
  rintro e w1 ⟨rfl, rfl⟩
  simp only [oi]
  go_wp2_with ((with_reducible refine wpList_store_row (o := ⟨none, _, _, _, _, _⟩) rfl 75 (.tmp 4) (.tmp 12) rfl w.heap.size (mcells m0) ?sx ?sy 75 ?old ?sg ?si ?so ?s1 ?_); (case sx => rfl); (case sy => rfl); (case old => exact mcells m0); (case sg => exact heap_alloc_new w _); (case si => kernel_rfl); (case so => rfl); (case s1 => kernel_rfl))
  exact refGet_ret rfl rfl rfl (setRow_heap _ _ _ _ _ _ (heap_alloc_new w _)) (below_setRow (balloc w _) (Nat.le_refl _) _)
 ·obtain ⟨x, hx, _, hi⟩ := fnd_some hp
  rw [hp] at HP
  rw [getP_yes hp hx]
  obtain ⟨g, cap, rfl, hbg, hgl, hBg, hr, hfz, _, _⟩ := h.one hx
  have HP := Lib.hid HP
  have HR := Lib.hid (fun w1 (hb : Below w.heap.size w w1) => (show w1.rangeAt g (i * 15) (mc x) from fun j u hu => (hb.cell (p := ⟨g, i * 15 + j, none⟩) hgl).trans (hr j u hu)))
  have hc := fun (o : Obj) => blk_cell (h.below (balloc w o)).blk 1
  simp at hc
  have hn : ¬ (i : Int) < 0 := by omega
  clear h hp hx hr hfz
  go_enter Tryz.func70, Tryz.ntmps70
  go_wp2_with fail
  refine (HP.out _).mono ?_
  rintro e w1 ⟨rfl, rfl⟩
  simp only [oi]
  go_wp2_with (first
   | ((with_reducible refine wpList_load_mid (op := ⟨some 19, _, _, _, _, _⟩) rfl 75 (.tmp 18) rfl g (i * 15) ?lx (mc x) _ ?lc Tryz.underlying75 ?ld ?li ?_); (case lx => rfl); (case lc => exact HR.out _ (balloc w _)); (case ld => rfl); (case li => kernel_rfl))
   | ((with_reducible refine wpList_store_row (o := ⟨none, _, _, _, _, _⟩) rfl 75 (.tmp 4) (.tmp 19) rfl w.heap.size (mcells x) ?sx ?sy 75 ?old ?sg ?si ?so ?s1 ?_); (case sx => rfl); (case sy => rfl); (case old => exact mcells m0); (case sg => exact heap_alloc_new w _); (case si => kernel_rfl); (case so => rfl); (case s1 => kernel_rfl)))
  exact refGet_ret rfl rfl rfl (setRow_heap _ _ _ _ _ _ (heap_alloc_new w _)) (below_setRow (balloc w _) (Nat.le_refl _) _)

end Go.Proofs.YtlfhkjjjocmpbaaGreatDoor.Mh

namespace Go.Proofs.YtlfhkjjjocmpbaaGreatDoor.Mh
open Go Go.RowKit

structure GaveD (w : World) (B b : Nat) (room : Int) (v : Value) (r : Int × List Ms) (e : Ending) (w' : World) : Prop where
 res : e = .returned (.int .i64 r.1)
 put : PutGave 62 75 15 mc w B b room r.2 v w'
theorem gave_new {T e : TypeId} {w w2 : World} {B b : Nat} {room : Int} {l m : List Ms} {v u : Value} {n : Nat} (h : Bg T e 15 mc w B b room l v) (hw : Below w.heap.size w w2) (hB : B ≤ w.heap.size) (hm : m.length = n)
  (hown : w2.ownsRow w.heap.size e 15 u n (cellsOf mc m)) : PutGave T e 15 mc w B b room m v (w2.setCell ⟨b, 1, none⟩ u) := by
 have hbl := h.lt
 have hb2 : w2.heap[b]? = some (.cells #[.int .i64 room, v] T (0, 0)) := (hw.block b hbl).trans h.blk
 have hu : ∀ k, u.ownBlock = some k → w.heap.size ≤ k := fun k hk => (hown.lt k hk).1
 subst hm
 refine ⟨u, ⟨?_, ?_, ?_, h.big⟩, ?_, ?_⟩
 ·rw [heap_setCell_same w2 b 1 _ _ _ hb2]
  rfl
 ·exact own_base (own_block (w' := w2.setCell ⟨b, 1, none⟩ u) hown fun k hk => heap_setCell_other _ _ _ _ (by have := hu k hk; simp only; omega)) fun k hk => by have := hu k hk; omega
 ·exact fun e => by have := hu b e; omega
 ·refine ⟨hw.os, hw.tape, hw.output, ?_, fun k hk h1 _ => ?_⟩
  ·have := hw.size; simp [World.setCell]; omega
  ·exact (heap_setCell_other _ _ _ _ h1).trans (hw.block k hk)
 ·exact fun k hk => .inr (hu k hk)
theorem heap_row2 (w : World) (A : Obj) (cs : Array Value) (t : TypeId) : ((w.alloc A).alloc (.cells cs t)).heap[w.heap.size + 1]? = some (.cells cs t (0, 0)) := by
 have e : w.heap.size + 1 = (w.alloc A).heap.size := by simp
 rw [e]
 exact heap_alloc_new _ _
theorem kind_no' {kind : Int} (h : (kind != 1 && kind != 2) = true) : (kind != 1) = true ∧ (kind != 2) = true := by simpa using h
theorem kind_yes {kind : Int} (hk : (kind != 1 && kind != 2) = false) : (kind != 1) = false ∨ (kind != 1) = true ∧ (kind != 2) = false := by
 rcases Bool.eq_false_or_eq_true (kind != 1) with h1 | h1
 ·exact .inr ⟨h1, by simpa [h1] using hk⟩
 ·exact .inl h1

set_option maxHeartbeats 1000000 in
theorem refOpen_nil {w : World} {B b : Nat} {room : Int} (h : BgD w B b room [] (.slice none 0 0)) (line kind : Int) (hB : B ≤ w.heap.size) (h1 : 1 ≤ room) (hk : (kind != 1 && kind != 2) = false) :
  Calls Tryz.prog 76 #[.pointer (some ⟨b, 0, none⟩), .int .i64 line, .int .i64 kind] w fun e w' => e = .returned (.int .i64 0) ∧ PutGave 62 75 15 mc w B b room [newM line kind] (.slice none 0 0) w' := by
 obtain ⟨i0, hi, hz0, hz1, hz2⟩ := info_parts A39
 have HP := refPlace_any h line (by simp)
 rw [show fnd [] line = none from rfl] at HP
 have HP := Lib.hid HP
 have c0 := blk_cell h.blk 0
 have c1 := blk_cell h.blk 1
 have f1 := blk_free h.blk 1
 have hlt := h.lt
 simp at c0 c1
 have hd : decide (room ≤ (0 : Int)) = false := by simp; omega
 have ca : ∀ o q, ((w.drewN q).alloc o).cell? ⟨b, 1, none⟩ = some (.slice none 0 0) := fun o q => (Lib.cell?_alloc_some (W := w.drewN q) o c1)
 have H := Lib.hid h
 have hks := kind_yes hk
 clear h hk
 rcases hks with k1 | ⟨k1, k2⟩
 all_goals
  go_enter Tryz.func76, Tryz.ntmps76
  go_wp2_with fail
  refine HP.out.mono ?_
  rintro e w1 ⟨rfl, rfl⟩
  simp only [oi]
  go_wp2
  go_quiet (fail)
  go_wp2_with (first
   | (at_builtin; refine wpList_append_own_none rfl (.tmp 28) (.tmp 32) 48 rfl w.heap.size 75 i0 15 Tryz.underlying48 hi _ _ _ rfl (World.ownsRow_made (w.drewN _) #[] 0 (Nat.le_refl _) (Nat.zero_le _) rfl) rfl ?_)
   | (at_builtin; refine wpList_append_lies _ rfl (.tmp 33) (.tmp 37) 48 rfl w.heap.size 75 i0 (.agg (mcells m0)) 15 112 Tryz.underlying48 hi hz0 hz1 hz2 rfl (by decide) _ _ _ rfl ((World.ownsRow_made (w.drewN _) #[] 0 (Nat.le_refl _) (Nat.zero_le _) rfl).alloc _) ⟨w.heap.size + 1, 0, none⟩ 1 1 (mc (newM line kind)) rfl rfl ?c1 ?c2 (by decide) ?c3 ?c4 ?c5 _ rfl ?_))
  case c1 => exact World.news_of_block (cs := mcells (newM line kind)) (t := 75) (fr := (0, 0)) (heap_row2 _ _ _ _)
  case c2 => exact mc_one _
  case c3 => simp only [maxLen]; omega
  case c4 => omega
  case c5 => simp; omega
  intro g' cap' w2 hown hgrow hat hlt2
  have hb2 : Below w.heap.size w w2 := (((below_drewN (Below.refl _ w) _).alloc (Nat.le_refl _) _).alloc (by simp) _).grown hgrow (by simp; omega) (by intro k hk; simp only [Value.ownBlock, Option.some.injEq] at hk; exact Nat.le_of_eq hk)
  have hw2 := (hb2.block b hlt).trans H.out.blk
  have c2 := blk_cell hw2 1
  have f2 := blk_free hw2 1
  simp at c2
  have HO := Lib.hid hown
  have HB := Lib.hid hb2
  clear hw2 hown hgrow hb2 c0 c1 f1 ca hat
  go_wp2
  go_ret
  exact ⟨rfl, gave_new (m := [newM line kind]) H.out HB.out hB rfl HO.out⟩

set_option maxHeartbeats 1000000 in
theorem refOpen_some {w : World} {B b : Nat} {room : Int} {l : List Ms} {g cap : Nat} (h : BgD w B b room l (.slice (some ⟨g, 0, none⟩) l.length cap)) (line kind : Int) (hB : B ≤ w.heap.size) (hl : (l.length : Int) < room) (h2 : room ≤ 8) (hk : (kind != 1 && kind != 2) = false) (hp : fnd l line = none) :
  Calls Tryz.prog 76 #[.pointer (some ⟨b, 0, none⟩), .int .i64 line, .int .i64 kind] w fun e w' => e = .returned (.int .i64 0) ∧ PutGave 62 75 15 mc w B b room (l ++ [newM line kind]) (.slice (some ⟨g, 0, none⟩) l.length cap) w' := by
 obtain ⟨i0, hi, hz0, hz1, hz2⟩ := info_parts A39
 have HP := refPlace_any h line (by omega)
 rw [hp] at HP
 have HP := Lib.hid HP
 have c0 := blk_cell h.blk 0
 have c1 := blk_cell h.blk 1
 have f1 := blk_free h.blk 1
 have hlt := h.lt
 simp at c0 c1
 have hd : decide (room ≤ (l.length : Int)) = false := by simp; omega
 have ca : ∀ o q, ((w.drewN q).alloc o).cell? ⟨b, 1, none⟩ = some (.slice (some ⟨g, 0, none⟩) l.length cap) := fun o q => (Lib.cell?_alloc_some (W := w.drewN q) o c1)
 have HC := Lib.hid (fun o q j u hu => (Lib.cell?_alloc_some (W := w.drewN q) o (h.row.cells (g := g) rfl j u hu)))
 have HL := Lib.hid (cellsOf_len mc_len l)
 have H1 : Hid (∀ u ∈ cellsOf mc l, u.oneCell' = true) := Lib.hid (mcs_one l)
 have H := Lib.hid h
 have hll : l.length ≤ 8 := by omega
 have hks := kind_yes hk
 clear h hl hk hp
 rcases hks with k1 | ⟨k1, k2⟩
 all_goals
  go_enter Tryz.func76, Tryz.ntmps76
  go_wp2_with fail
  refine HP.out.mono ?_
  rintro e w1 ⟨rfl, rfl⟩
  simp only [oi]
  go_wp2
  go_quiet (fail)
  go_wp2_with (at_builtin; refine wpList_append_own _ rfl (.tmp 28) (.tmp 32) 48 rfl w.heap.size 75 i0 (.agg (mcells m0)) 15 112 Tryz.underlying48 hi hz0 hz1 hz2 rfl (by decide) _ _ _ rfl (World.ownsRow_made (w.drewN _) #[] 0 (Nat.le_refl _) (Nat.zero_le _) rfl) ⟨g, 0, none⟩ l.length cap (cellsOf mc l) rfl HL.out ?c1 H1.out ?c3 ?c4 ?c5 ?_)
  case c1 => exact HC.out _ _
  case c3 => simp only [maxLen]; omega
  case c4 => omega
  case c5 => simp
  intro v1 w1 hown1 hgrow1 hnil1
  have hb1 : Below w.heap.size w w1 := ((below_drewN (Below.refl _ w) _).alloc (Nat.le_refl _) _).grown hgrow1 (by simp) (by intro k hk; simp only [Value.ownBlock, Option.some.injEq] at hk; exact Nat.le_of_eq hk)
  have hz1' : w.heap.size < w1.heap.size := by have := hgrow1.size; simp at this; omega
  have HO1 := Lib.hid hown1
  have HB1 := Lib.hid hb1
  have HN1 := Lib.hid (fun k hk => (hown1.lt k hk).1)
  clear hown1 hgrow1 hb1 hnil1 c0 c1 f1 ca
  go_wp2_with (at_builtin; refine wpList_append_lies _ rfl (.tmp 33) (.tmp 37) 48 rfl w.heap.size 75 i0 (.agg (mcells m0)) 15 112 Tryz.underlying48 hi hz0 hz1 hz2 rfl (by decide) v1 l.length (cellsOf mc l) rfl ((by simpa using HO1.out : w1.ownsRow w.heap.size 75 15 v1 l.length (cellsOf mc l)).alloc _) ⟨w1.heap.size, 0, none⟩ 1 1 (mc (newM line kind)) rfl rfl ?c1 ?c2 (by decide) ?c3 ?c4 ?c5 _ rfl ?_)
  case c1 => exact World.news_of_block (cs := mcells (newM line kind)) (t := 75) (fr := (0, 0)) (heap_alloc_new w1 _)
  case c2 => exact mc_one _
  case c3 => simp only [maxLen]; omega
  case c4 => omega
  case c5 => simp; omega
  intro g' cap' w2 hown hgrow hat hlt2
  have hb2 : Below w.heap.size w w2 := (HB1.out.alloc (by omega) _).grown hgrow (by simp; omega) HN1.out
  have hw2 := (hb2.block b hlt).trans H.out.blk
  have c2 := blk_cell hw2 1
  have f2 := blk_free hw2 1
  simp at c2
  have HO := Lib.hid hown
  have HB := Lib.hid hb2
  clear hw2 hown hgrow hb2 hat
  go_wp2
  go_ret
  exact ⟨rfl, gave_new (m := l ++ [newM line kind]) (n := l.length + 1) H.out HB.out hB (by simp) (by rw [cellsOf_append]; simpa [cellsOf] using HO.out)⟩

set_option maxHeartbeats 1000000 in
theorem refOpen_any {w : World} {B b : Nat} {room : Int} {l : List Ms} {v : Value} (h : BgD w B b room l v) (hB : B ≤ w.heap.size) (line kind : Int) (h1 : 1 ≤ room) (hr : room ≤ 8) (hl : (l.length : Int) ≤ room) :
  Calls Tryz.prog 76 #[.pointer (some ⟨b, 0, none⟩), .int .i64 line, .int .i64 kind] w (GaveD w B b room v (openP room l line kind)) := by
 have HEl : ∀ n, openP room l line kind = (n, l) → Hid (∀ w', Below w.heap.size w w' → GaveD w B b room v (openP room l line kind) (.returned (.int .i64 n)) w') := fun n e => Lib.hid (fun w' hb => by
  rw [e]
  exact ⟨rfl, gave_same h hb⟩)
 rcases Bool.eq_false_or_eq_true (kind != 1 && kind != 2) with hk | hk
 ·have HE := HEl 1 (openP_kind hk)
  obtain ⟨k1, k2⟩ := kind_no' hk
  clear h HEl hk
  go_enter Tryz.func76, Tryz.ntmps76
  go_wp2
  go_ret
  exact HE.out _ (Below.refl _ _)
 ·rcases hp : fnd l line with _ | i
  ·by_cases hf : (l.length : Int) = room
   ·have HE := HEl 4 (openP_full hk hp hf)
    have HP := refPlace_any h line (by omega)
    rw [hp] at HP
    have HP := Lib.hid HP
    have hks := kind_yes hk
    have hd : decide (room ≤ (l.length : Int)) = true := by simp; omega
    obtain ⟨q, cap, rfl, hq⟩ := h.form
    have c0 := blk_cell h.blk 0
    have c1 := blk_cell h.blk 1
    simp at c0 c1
    clear h HEl hk hp hf hq
    rcases hks with k1 | ⟨k1, k2⟩
    all_goals
     go_enter Tryz.func76, Tryz.ntmps76
     go_wp2_with fail
     refine HP.out.mono ?_
     rintro e w1 ⟨rfl, rfl⟩
     simp only [oi]
     go_wp2
     go_quiet (fail)
     go_wp2
     go_ret
     exact HE.out _ (below_drewN (Below.refl _ _) _)
   ·rw [openP_yes hk hp hf]
    rcases h.row.2 with ⟨rfl, h0⟩ | ⟨g, cap, cur, rfl, _⟩
    ·have e : l = [] := List.eq_nil_of_length_eq_zero h0
     subst e
     exact (refOpen_nil h line kind hB h1 hk).mono fun _ _ ⟨e, g⟩ => ⟨e, g⟩
    ·exact (refOpen_some h line kind hB (by omega) hr hk hp).mono fun _ _ ⟨e, g⟩ => ⟨e, g⟩
  ·have HE := HEl 6 (openP_twice hk hp)
   have HP := refPlace_any h line (by omega)
   rw [hp] at HP
   have HP := Lib.hid HP
   have hks := kind_yes hk
   have hn : (0 : Int) ≤ (i : Int) := by omega
   clear h HEl hk hp
   rcases hks with k1 | ⟨k1, k2⟩
   all_goals
    go_enter Tryz.func76, Tryz.ntmps76
    go_wp2_with fail
    refine HP.out.mono ?_
    rintro e w1 ⟨rfl, rfl⟩
    simp only [oi]
    go_wp2
    go_ret
    exact HE.out _ (Below.refl _ _)

end Go.Proofs.YtlfhkjjjocmpbaaGreatDoor.Mh

namespace Go.Proofs.YtlfhkjjjocmpbaaGreatDoor.Mh
open Go Go.RowKit

theorem run_storeVar_any {P : Program} (w : World) (b o : Nat) (ty : TypeId) (v : Value) (ht : w.there b o v.cells.size) (hi : (P.info? ty).map (·.size) = some v.cells.size) (h1 : ∀ u ∈ v.cells.toList, u.oneCell' = true) :
  (storeVar ty ⟨b, o, none⟩ v).run P w = .ok () (w.setCells b o v.cells.toList) := by
 have := run_storeCells_cells (P := P) b o v.cells.toList 0 w (fun j hj => by simpa using (ht j (by simpa using hj)).1) (fun j hj => by simpa using (ht j (by simpa using hj)).2) h1
 cases hq : P.info? ty with
 | none => simp [hq] at hi
 | some i =>
  have hs : v.cells.size = i.size := by simp [hq] at hi; omega
  simp only [Nat.add_zero] at this
  simp [storeVar, sizeOf, typeInfo, hq, hs, this]

theorem wpList_store_own {P : Program} {ops : Array Oper} {rest : List Oper} {op : Oper} {a : Act} {w : World} {Q : Exit → Act → World → Prop} (hgd : op.guard = none) (ty : TypeId) (x y : Operand) (ho : op.op = .store ty x y)
  (b o : Nat) (v : Value) (hx : a.eval x = .pointer (some ⟨b, o, none⟩)) (hy : a.eval y = v) (cur : Array Value) (t : TypeId) (hg : w.heap[b]? = some (.cells cur t (0, 0))) (hi : (P.info? ty).map (·.size) = some v.cells.size) (hfit : o + v.cells.size ≤ cur.size) (h1 : ∀ u ∈ v.cells.toList, u.oneCell' = true)
  (new : Array Value) (hnew : (cur.toList.take o ++ v.cells.toList ++ cur.toList.drop (o + v.cells.toList.length)).toArray = new)
  (h : ∀ w', w'.heap[b]? = some (.cells new t (0, 0)) → w'.os = w.os → w'.tape = w.tape → w'.output = w.output → w'.heap.size = w.heap.size → (∀ k, k ≠ b → w'.heap[k]? = w.heap[k]?) → wpList P ops Q rest (a.put op.dst undef) w') : wpList P ops Q (op :: rest) a w := by
 refine wpList_plain hgd fun K hK => ?_
 have hth : w.there b o v.cells.size := fun j hj => ⟨by rw [blk_cell hg, Array.getElem?_eq_getElem (by omega)]; rfl, blk_free hg _⟩
 have hrun := run_storeVar_any (P := P) w b o ty v hth hi h1
 unfold Oper.wp execOp
 simp only [ho, hx, hy, Instr.storeAt, Instr.sureAddr, Sem.run_bind, Sem.run_pure, Result.andThen_ok, hrun]
 obtain ⟨r1, r2, r3, r4⟩ := setCells_rest b v.cells.toList o w
 refine hK _ _ (h _ ?_ r1 r2 r3 r4 (fun k hk => heap_setCells_other b _ o w k hk))
 rw [heap_setCells_row b t v.cells.toList o cur w hg (by simpa using hfit), hnew]
theorem below_part {B K : Nat} {w w1 w2 : World} (h : Below B w w1) (hK : B ≤ K) (r1 : w2.os = w1.os) (r2 : w2.tape = w1.tape) (r3 : w2.output = w1.output) (r4 : w2.heap.size = w1.heap.size) (r5 : ∀ k, k ≠ K → w2.heap[k]? = w1.heap[k]?) : Below B w w2 :=
 h.trans ⟨r1, r2, r3, by omega, fun k hk => r5 k (by omega)⟩
theorem below_box (wr : World) (o : Obj) (cs : Array Value) : Below wr.heap.size wr ((wr.alloc o).setRow wr.heap.size cs) := below_setRow (balloc wr o) (Nat.le_refl _) _

set_option maxHeartbeats 1000000 in
theorem refAck_any {w : World} {B b : Nat} {room k : Int} {l : List Ms} {v : Value} (h : BgD w B b room l v) (gd : Good room k l) (hk9 : k ≤ 1000) (line : Int) :
  Calls Tryz.prog 85 #[.pointer (some ⟨b, 0, none⟩), .int .i64 line] w (GaveD w B b room v (chg l line ackF)) := by
 have hl := gd.len
 have hr8 := gd.r2
 have HEl : ∀ n, chg l line ackF = (n, l) → Hid (∀ w', Below w.heap.size w w' → GaveD w B b room v (chg l line ackF) (.returned (.int .i64 n)) w') := fun n e => Lib.hid (fun w' hb => by
  rw [e]
  exact ⟨rfl, gave_same h hb⟩)
 have HP := refPlace_any h line (by omega)
 rcases hp : fnd l line with _ | i
 ·have HE := HEl 5 (chg_none _ hp)
  rw [hp] at HP
  have HP := Lib.hid HP
  clear h HEl hp gd
  go_enter Tryz.func85, Tryz.ntmps85
  go_wp2_with fail
  refine HP.out.mono ?_
  rintro e w1 ⟨rfl, rfl⟩
  simp only [oi]
  go_wp2
  go_ret
  exact HE.out _ (Below.refl _ _)
 ·obtain ⟨x, hx, _, hi⟩ := fnd_some hp
  rw [hp] at HP
  have HP := Lib.hid HP
  have hok := gd.at hx
  have hgk := hok.gk
  have hg0 := hok.g0
  obtain ⟨g, cap, rfl, hbg, hgl, hBg, hr, hfz, _, _⟩ := h.one hx
  have c1 := blk_cell h.blk 1
  simp at c1
  have hni : ¬ (i : Int) < 0 := by omega
  have HA := Lib.hid (fun w1 (hb : Below w.heap.size w w1) => (h.below hb).at1 hx)
  have HR := Lib.hid hr
  have HC := Lib.hid (fun w1 (hb : Below w.heap.size w w1) => blk_cell (h.below hb).blk 1)
  have hcs : ((x.kd == 1) = true ∨ (x.kd == 1) = false ∧ 0 ≤ x.nd ∧ x.nd ≤ x.gt) ∧ ackF x = none ∨ ((x.kd == 1) = false ∧ (x.nd < 0 ∧ decide (0 ≤ x.nd) = false ∨ 0 ≤ x.nd ∧ x.gt < x.nd ∧ decide (x.nd ≤ x.gt) = false)) ∧ ackF x = some (ackY x) := by
   have hgn := hok.gn
   have hnd := hok.nd
   rcases Bool.eq_false_or_eq_true (x.kd == 1) with hk | hk
   ·exact .inl ⟨.inl hk, ackF_no (by simp [hk])⟩
   ·by_cases h0 : 0 ≤ x.nd
    ·by_cases h1 : x.nd ≤ x.gt
     ·refine .inl ⟨.inr ⟨hk, h0, h1⟩, ackF_no ?_⟩
      have h2 := hgn (by omega)
      simp [came, knw]
      omega
     ·refine .inr ⟨⟨hk, .inr ⟨h0, by omega, by simpa using h1⟩⟩, ackF_yes ?_⟩
      simp [hk, came, knw]
      omega
    ·refine .inr ⟨⟨hk, .inl ⟨by omega, by simpa using h0⟩⟩, ackF_yes ?_⟩
     have : x.nd = -1 := by omega
     simp [hk, came, knw, this]
  rcases hcs with ⟨hcc, hf⟩ | ⟨⟨hkd, hcc⟩, hf⟩
  ·have HE := HEl 7 (chg_no hp hx hf)
   clear h HEl hp hx hr hfz gd hok hf
   rcases hcc with hkd | ⟨hkd, hn1, hn2⟩
   all_goals
    go_enter Tryz.func85, Tryz.ntmps85
    go_wp2_with fail
    refine HP.out.mono ?_
    rintro e w1 ⟨rfl, rfl⟩
    simp only [oi]
    have HB := Lib.hid (below_box w (.cells #[.int .i64 0, .int .i64 0, .int .i64 0, .int .i64 0, .int .i64 0, .int .i64 0, .int .i64 0, .int .i64 0, .int .i64 0, .int .i64 0, .int .i64 0, .int .i64 0, .int .i64 0, .bool false, .bool false] 75) (mcells x))
    have HX := Lib.hid (blk_cell (setRow_heap (w.alloc (.cells #[.int .i64 0, .int .i64 0, .int .i64 0, .int .i64 0, .int .i64 0, .int .i64 0, .int .i64 0, .int .i64 0, .int .i64 0, .int .i64 0, .int .i64 0, .int .i64 0, .int .i64 0, .bool false, .bool false] 75)) w.heap.size _ (mcells x) _ _ (heap_alloc_new w (.cells #[.int .i64 0, .int .i64 0, .int .i64 0, .int .i64 0, .int .i64 0, .int .i64 0, .int .i64 0, .int .i64 0, .int .i64 0, .int .i64 0, .int .i64 0, .int .i64 0, .int .i64 0, .bool false, .bool false] 75))))
    go_wp2_with (first
     | ((with_reducible refine wpList_load_mid (op := ⟨some 18, _, _, _, _, _⟩) rfl 75 (.tmp 17) rfl g (i * 15) ?lx (mc x) _ ?lc Tryz.underlying75 ?ld ?li ?_); (case lx => rfl); (case lc => exact HR.out); (case ld => rfl); (case li => kernel_rfl))
     | ((with_reducible refine wpList_store_row (o := ⟨none, _, _, _, _, _⟩) rfl 75 (.tmp 6) (.tmp 18) rfl w.heap.size (mcells x) ?sx ?sy 75 ?old ?sg ?si ?so ?s1 ?_); (case sx => rfl); (case sy => rfl); (case old => exact #[.int .i64 0, .int .i64 0, .int .i64 0, .int .i64 0, .int .i64 0, .int .i64 0, .int .i64 0, .int .i64 0, .int .i64 0, .int .i64 0, .int .i64 0, .int .i64 0, .int .i64 0, .bool false, .bool false]); (case sg => exact heap_alloc_new w _); (case si => kernel_rfl); (case so => rfl); (case s1 => kernel_rfl); generalize (w.alloc (.cells #[.int .i64 0, .int .i64 0, .int .i64 0, .int .i64 0, .int .i64 0, .int .i64 0, .int .i64 0, .int .i64 0, .int .i64 0, .int .i64 0, .int .i64 0, .int .i64 0, .int .i64 0, .bool false, .bool false] 75)).setRow w.heap.size (mcells x) = w2 at *; generalize w.heap.size = k6 at *; have hA := HX.out))
    go_ret
    exact HE.out _ HB.out
  ·have HE : Hid (∀ w1, Below w.heap.size w w1 → GaveD w B b room (.slice (some ⟨g, 0, none⟩) l.length cap) (chg l line ackF) (.returned (.int .i64 0)) (w1.setCell ⟨g, i * 15 + 3, none⟩ (.int .i64 (x.gt + 1))).drew) := Lib.hid (fun w1 hb => by
    rw [chg_yes hp hx hf]
    refine ⟨rfl, PutGave.drew1 (gave_store h hb hx (ackY x) 3 [.int .i64 (x.gt + 1)] (by simp) (fun m hm => by simp at hm; subst hm; rfl) (fun m hm hm2 => by
     simp at hm2
     rcases (show m = 0 ∨ m = 1 ∨ m = 2 ∨ m = 4 ∨ m = 5 ∨ m = 6 ∨ m = 7 ∨ m = 8 ∨ m = 9 ∨ m = 10 ∨ m = 11 ∨ m = 12 ∨ m = 13 ∨ m = 14 by omega) with rfl | rfl | rfl | rfl | rfl | rfl | rfl | rfl | rfl | rfl | rfl | rfl | rfl | rfl
     all_goals rfl))⟩)
   have hwr : IntKind.i64.wrap (x.gt + 1) = x.gt + 1 := IntWalk.i64_in _ (by omega)
   clear h HEl hp hx hr hfz gd hok hf
   rcases hcc with ⟨hn1, hn2⟩ | ⟨hn1, hn2, hn3⟩
   all_goals
    go_enter Tryz.func85, Tryz.ntmps85
    go_wp2_with fail
    refine HP.out.mono ?_
    rintro e w1 ⟨rfl, rfl⟩
    simp only [oi]
    have HB := Lib.hid (below_box w (.cells #[.int .i64 0, .int .i64 0, .int .i64 0, .int .i64 0, .int .i64 0, .int .i64 0, .int .i64 0, .int .i64 0, .int .i64 0, .int .i64 0, .int .i64 0, .int .i64 0, .int .i64 0, .bool false, .bool false] 75) (mcells x))
    have HX := Lib.hid (blk_cell (setRow_heap (w.alloc (.cells #[.int .i64 0, .int .i64 0, .int .i64 0, .int .i64 0, .int .i64 0, .int .i64 0, .int .i64 0, .int .i64 0, .int .i64 0, .int .i64 0, .int .i64 0, .int .i64 0, .int .i64 0, .bool false, .bool false] 75)) w.heap.size _ (mcells x) _ _ (heap_alloc_new w (.cells #[.int .i64 0, .int .i64 0, .int .i64 0, .int .i64 0, .int .i64 0, .int .i64 0, .int .i64 0, .int .i64 0, .int .i64 0, .int .i64 0, .int .i64 0, .int .i64 0, .int .i64 0, .bool false, .bool false] 75))))
    have HT := Lib.hid (HE.out _ HB.out)
    have HA2 := Lib.hid (HA.out _ HB.out)
    have HC2 := Lib.hid (HC.out _ HB.out)
    have hnk : w.heap.size ≠ g := by omega
    clear HE HB HA HC
    go_wp2_with (first
     | ((with_reducible refine wpList_load_mid (op := ⟨some 18, _, _, _, _, _⟩) rfl 75 (.tmp 17) rfl g (i * 15) ?lx (mc x) _ ?lc Tryz.underlying75 ?ld ?li ?_); (case lx => rfl); (case lc => exact HR.out); (case ld => rfl); (case li => kernel_rfl))
     | ((with_reducible refine wpList_store_row (o := ⟨none, _, _, _, _, _⟩) rfl 75 (.tmp 6) (.tmp 18) rfl w.heap.size (mcells x) ?sx ?sy 75 ?old ?sg ?si ?so ?s1 ?_); (case sx => rfl); (case sy => rfl); (case old => exact #[.int .i64 0, .int .i64 0, .int .i64 0, .int .i64 0, .int .i64 0, .int .i64 0, .int .i64 0, .int .i64 0, .int .i64 0, .int .i64 0, .int .i64 0, .int .i64 0, .int .i64 0, .bool false, .bool false]); (case sg => exact heap_alloc_new w _); (case si => kernel_rfl); (case so => rfl); (case s1 => kernel_rfl); generalize (w.alloc (.cells #[.int .i64 0, .int .i64 0, .int .i64 0, .int .i64 0, .int .i64 0, .int .i64 0, .int .i64 0, .int .i64 0, .int .i64 0, .int .i64 0, .int .i64 0, .int .i64 0, .int .i64 0, .bool false, .bool false] 75)).setRow w.heap.size (mcells x) = w2 at *; generalize w.heap.size = k6 at *; have hA := HX.out; have c2 := HC2.out; have r3 := HA2.out.row 3 _ rfl; have f3 := HA2.out.fz (i * 15 + 3)))
    go_region
    clear hA c2 r3 f3
    go_wp2
    go_ret
    exact HT.out

theorem words_one (d : Wd) : ∀ u ∈ (Value.agg (dcells d)).cells.toList, u.oneCell' = true := by
 intro u hu
 simp [Value.cells] at hu
 rcases hu with rfl | rfl | rfl | rfl | rfl | rfl | rfl | rfl <;> rfl
theorem data_cases {x : Ms} {k acks own : Int} (h : Ok k x) :
  (tkes x acks own = false ∧ (0 ≤ x.nd ∨ (x.nd < 0 ∧ decide (0 ≤ x.nd) = false) ∧ (acks < 0 ∨ (0 ≤ acks ∧ decide (acks < 0) = false) ∧ (acks < x.gt ∨ (x.gt ≤ acks ∧ decide (acks < x.gt) = false) ∧
   (((own != 4) = true ∧ 0 < acks) ∨ ((own != 4) = true ∧ (acks ≤ 0 ∧ decide (0 < acks) = false) ∧ (x.kd == 2) = true) ∨ ((own != 4) = false ∧ (x.kd == 2) = false ∧ (x.kd == 1) = true ∧ (own != 1) = true ∧ (own != 2) = true) ∨ ((own != 4) = true ∧ (acks ≤ 0 ∧ decide (0 < acks) = false) ∧ (x.kd == 2) = false ∧ (x.kd == 1) = true ∧ (own != 1) = true ∧ (own != 2) = true)))))) ∨
  (tkes x acks own = true ∧ (x.nd < 0 ∧ decide (0 ≤ x.nd) = false) ∧ (0 ≤ acks ∧ decide (acks < 0) = false) ∧ (x.gt ≤ acks ∧ decide (acks < x.gt) = false) ∧
   (((own != 4) = false ∧ (x.kd == 2) = true ∧ (x.kd == 1) = false) ∨ ((own != 4) = true ∧ (acks ≤ 0 ∧ decide (0 < acks) = false) ∧ (x.kd == 2) = false ∧ (x.kd == 1) = true ∧ ((own != 1) = false ∨ (own != 1) = true ∧ (own != 2) = false)))) := by
 have hnd := h.nd
 have hg0 := h.g0
 have hkd := h.kd
 by_cases h1 : 0 ≤ x.nd
 ·refine .inl ⟨?_, .inl h1⟩
  have : ¬ x.nd = -1 := by omega
  simp [tkes, knw, this]
 ·have e1 : x.nd = -1 := by omega
  have n1 : x.nd < 0 ∧ decide (0 ≤ x.nd) = false := ⟨by omega, by simpa using h1⟩
  by_cases h2 : acks < 0
  ·refine .inl ⟨?_, .inr ⟨n1, .inl h2⟩⟩
   have : acks < x.gt := by omega
   simp [tkes, this]
  ·have n2 : 0 ≤ acks ∧ decide (acks < 0) = false := ⟨by omega, by simpa using h2⟩
   by_cases h3 : acks < x.gt
   ·exact .inl ⟨by simp [tkes, h3], .inr ⟨n1, .inr ⟨n2, .inl h3⟩⟩⟩
   ·have n3 : x.gt ≤ acks ∧ decide (acks < x.gt) = false := ⟨by omega, by simpa using h3⟩
    have hT : tkes x acks own = if (own == 4) = true then x.kd == 2 else if (own == 1 || own == 2) = true then x.kd == 1 && acks == 0 else false := by
     unfold tkes
     rw [if_neg (by simp [knw, e1]; omega)]
    by_cases h4 : own = 4
    ·have m4 : (own != 4) = false := by simp [h4]
     rcases hkd with hk | hk
     ·refine .inl ⟨by rw [hT]; simp [h4, hk], .inr ⟨n1, .inr ⟨n2, .inr ⟨n3, .inr (.inr (.inl ⟨m4, by simp [hk], by simp [hk], by simp [h4], by simp [h4]⟩))⟩⟩⟩⟩
     ·exact .inr ⟨by rw [hT]; simp [h4, hk], n1, n2, n3, .inl ⟨m4, by simp [hk], by simp [hk]⟩⟩
    ·have m4 : (own != 4) = true := by simpa using h4
     by_cases h5 : 0 < acks
     ·refine .inl ⟨?_, .inr ⟨n1, .inr ⟨n2, .inr ⟨n3, .inl ⟨m4, h5⟩⟩⟩⟩⟩
      have : ¬ acks = 0 := by omega
      rw [hT]
      simp [h4, this]
     ·have n5 : acks ≤ 0 ∧ decide (0 < acks) = false := ⟨by omega, by simpa using h5⟩
      have e5 : acks = 0 := by omega
      rcases hkd with hk | hk
      ·by_cases h6 : own = 1
       ·exact .inr ⟨by rw [hT]; simp [h6, hk, e5], n1, n2, n3, .inr ⟨m4, n5, by simp [hk], by simp [hk], .inl (by simp [h6])⟩⟩
       ·by_cases h7 : own = 2
        ·exact .inr ⟨by rw [hT]; simp [h7, hk, e5], n1, n2, n3, .inr ⟨m4, n5, by simp [hk], by simp [hk], .inr ⟨by simpa using h6, by simp [h7]⟩⟩⟩
        ·exact .inl ⟨by rw [hT]; simp [h4, h6, h7], .inr ⟨n1, .inr ⟨n2, .inr ⟨n3, .inr (.inr (.inr ⟨m4, n5, by simp [hk], by simp [hk], by simpa using h6, by simpa using h7⟩))⟩⟩⟩⟩
      ·refine .inl ⟨?_, .inr ⟨n1, .inr ⟨n2, .inr ⟨n3, .inr (.inl ⟨m4, n5, by simp [hk]⟩)⟩⟩⟩⟩
       rw [hT]
       simp [h4, hk]

set_option maxRecDepth 100000 in
set_option maxHeartbeats 4000000 in
theorem refData_no {w : World} {B b : Nat} {room k : Int} {l : List Ms} {g cap : Nat} (h : BgD w B b room l (.slice (some ⟨g, 0, none⟩) l.length cap)) (line acks own : Int) (d : Wd) (hl8 : l.length ≤ 5000) {i : Nat} {x : Ms} (hp : fnd l line = some i) (hx : l[i]? = some x) (hok : Ok k x) (ht : tkes x acks own = false) :
  Calls Tryz.prog 83 #[.pointer (some ⟨b, 0, none⟩), .int .i64 line, .int .i64 acks, .int .i64 own, .agg (dcells d)] w fun e w' => e = .returned (.int .i64 7) ∧ Below w.heap.size w w' := by
 have hbx := balloc w (.cells (dcells d) 36)
 have HP := refPlace_any (h.below hbx) line hl8
 rw [hp] at HP
 have HP := Lib.hid HP
 have hi := (List.getElem?_eq_some_iff.1 hx).1
 have hni : ¬ (i : Int) < 0 := by omega
 have c1 := blk_cell (h.below hbx).blk 1
 simp at c1
 have HR := Lib.hid ((h.below hbx).at1 hx).row
 have hbx2 := bstep hbx (below_setRow (balloc (w.alloc (.cells (dcells d) 36)) (.cells #[.int .i64 0, .int .i64 0, .int .i64 0, .int .i64 0, .int .i64 0, .int .i64 0, .int .i64 0, .int .i64 0, .int .i64 0, .int .i64 0, .int .i64 0, .int .i64 0, .int .i64 0, .bool false, .bool false] 75)) (Nat.le_refl _) (mcells x))
 have hrow := setRow_heap ((w.alloc (.cells (dcells d) 36)).alloc (.cells #[.int .i64 0, .int .i64 0, .int .i64 0, .int .i64 0, .int .i64 0, .int .i64 0, .int .i64 0, .int .i64 0, .int .i64 0, .int .i64 0, .int .i64 0, .int .i64 0, .int .i64 0, .bool false, .bool false] 75)) (w.heap.size + 1) _ (mcells x) _ _ (heap_row2 w (.cells (dcells d) 36) #[.int .i64 0, .int .i64 0, .int .i64 0, .int .i64 0, .int .i64 0, .int .i64 0, .int .i64 0, .int .i64 0, .int .i64 0, .int .i64 0, .int .i64 0, .int .i64 0, .int .i64 0, .bool false, .bool false] 75)
 rw [show (w.alloc (.cells (dcells d) 36)).heap.size = w.heap.size + 1 by simp] at hbx2
 have HB := Lib.hid hbx2
 have HX := Lib.hid (blk_cell hrow)
 have hcs := data_cases (acks := acks) (own := own) hok
 rw [ht] at hcs
 rcases hcs with ⟨-, hcs⟩ | ⟨e, _⟩
 ·clear h hp hx hok ht hbx hbx2 hrow
  rcases hcs with f1 | ⟨⟨m1, m2⟩, f1 | ⟨⟨m3, m4⟩, f1 | ⟨⟨m5, m6⟩, ⟨f1, f2⟩ | ⟨f1, ⟨f2, f3⟩, f4⟩ | ⟨f1, f2, f3, f4, f5⟩ | ⟨f1, ⟨f2, f3⟩, f4, f5, f6, f7⟩⟩⟩⟩
  all_goals
   go_enter Tryz.func83, Tryz.ntmps83
   go_wp2_with fail
   refine HP.out.mono ?_
   rintro e w1 ⟨rfl, rfl⟩
   simp only [oi]
   go_wp2_with (first
    | ((with_reducible refine wpList_load_mid (op := ⟨some 24, _, _, _, _, _⟩) rfl 75 (.tmp 23) rfl g (i * 15) ?lx (mc x) _ ?lc Tryz.underlying75 ?ld ?li ?_); (case lx => rfl); (case lc => exact HR.out); (case ld => rfl); (case li => kernel_rfl))
    | ((with_reducible refine wpList_store_row (o := ⟨none, _, _, _, _, _⟩) rfl 75 (.tmp 12) (.tmp 24) rfl (w.heap.size + 1) (mcells x) ?sx ?sy 75 ?old ?sg ?si ?so ?s1 ?_); (case sx => rfl); (case sy => rfl); (case old => exact #[.int .i64 0, .int .i64 0, .int .i64 0, .int .i64 0, .int .i64 0, .int .i64 0, .int .i64 0, .int .i64 0, .int .i64 0, .int .i64 0, .int .i64 0, .int .i64 0, .int .i64 0, .bool false, .bool false]); (case sg => exact heap_row2 w _ _ _); (case si => kernel_rfl); (case so => rfl); (case s1 => kernel_rfl); generalize ((w.alloc (.cells (dcells d) 36)).alloc (.cells #[.int .i64 0, .int .i64 0, .int .i64 0, .int .i64 0, .int .i64 0, .int .i64 0, .int .i64 0, .int .i64 0, .int .i64 0, .int .i64 0, .int .i64 0, .int .i64 0, .int .i64 0, .bool false, .bool false] 75)).setRow (w.heap.size + 1) (mcells x) = w2 at *; have hA := HX.out))
   go_ret
   exact ⟨rfl, HB.out⟩
 ·cases e

set_option maxRecDepth 100000 in
set_option maxHeartbeats 4000000 in
theorem refData_yes {w : World} {B b : Nat} {room k : Int} {l : List Ms} {g cap : Nat} (h : BgD w B b room l (.slice (some ⟨g, 0, none⟩) l.length cap)) (line acks own : Int) (d : Wd) (hl8 : l.length ≤ 5000) {i : Nat} {x : Ms} (hp : fnd l line = some i) (hx : l[i]? = some x) (hok : Ok k x) (ht : tkes x acks own = true) :
  Calls Tryz.prog 83 #[.pointer (some ⟨b, 0, none⟩), .int .i64 line, .int .i64 acks, .int .i64 own, .agg (dcells d)] w fun e w' => e = .returned (.int .i64 0) ∧ PutGave 62 75 15 mc w B b room (l.set i (dataY acks own d x)) (.slice (some ⟨g, 0, none⟩) l.length cap) w' := by
 have hbx := balloc w (.cells (dcells d) 36)
 have HP := refPlace_any (h.below hbx) line hl8
 rw [hp] at HP
 have HP := Lib.hid HP
 have hi := (List.getElem?_eq_some_iff.1 hx).1
 have hni : ¬ (i : Int) < 0 := by omega
 have c1 := blk_cell (h.below hbx).blk 1
 simp at c1
 have HR := Lib.hid ((h.below hbx).at1 hx).row
 have hbx2 := bstep hbx (below_setRow (balloc (w.alloc (.cells (dcells d) 36)) (.cells #[.int .i64 0, .int .i64 0, .int .i64 0, .int .i64 0, .int .i64 0, .int .i64 0, .int .i64 0, .int .i64 0, .int .i64 0, .int .i64 0, .int .i64 0, .int .i64 0, .int .i64 0, .bool false, .bool false] 75)) (Nat.le_refl _) (mcells x))
 have hrow := setRow_heap ((w.alloc (.cells (dcells d) 36)).alloc (.cells #[.int .i64 0, .int .i64 0, .int .i64 0, .int .i64 0, .int .i64 0, .int .i64 0, .int .i64 0, .int .i64 0, .int .i64 0, .int .i64 0, .int .i64 0, .int .i64 0, .int .i64 0, .bool false, .bool false] 75)) (w.heap.size + 1) _ (mcells x) _ _ (heap_row2 w (.cells (dcells d) 36) #[.int .i64 0, .int .i64 0, .int .i64 0, .int .i64 0, .int .i64 0, .int .i64 0, .int .i64 0, .int .i64 0, .int .i64 0, .int .i64 0, .int .i64 0, .int .i64 0, .int .i64 0, .bool false, .bool false] 75)
 rw [show (w.alloc (.cells (dcells d) 36)).heap.size = w.heap.size + 1 by simp] at hbx2
 have hwd := (setRow_other ((w.alloc (.cells (dcells d) 36)).alloc (.cells #[.int .i64 0, .int .i64 0, .int .i64 0, .int .i64 0, .int .i64 0, .int .i64 0, .int .i64 0, .int .i64 0, .int .i64 0, .int .i64 0, .int .i64 0, .int .i64 0, .int .i64 0, .bool false, .bool false] 75)) (w.heap.size + 1) w.heap.size (mcells x) (by omega)).trans (new_at1 w (.cells (dcells d) 36) (.cells #[.int .i64 0, .int .i64 0, .int .i64 0, .int .i64 0, .int .i64 0, .int .i64 0, .int .i64 0, .int .i64 0, .int .i64 0, .int .i64 0, .int .i64 0, .int .i64 0, .int .i64 0, .bool false, .bool false] 75))
 have HB := Lib.hid hbx2
 have HX := Lib.hid hrow
 have HWD := Lib.hid hwd
 have hgl := (h.row.lt g rfl).2
 have hk1 : w.heap.size ≠ g := by omega
 have hk2 : w.heap.size + 1 ≠ g := by omega
 have hbl := h.lt
 have hk3 : w.heap.size + 1 ≠ b := by omega
 have HA := Lib.hid ((h.below hbx2).at1 hx)
 have HC := Lib.hid (h.below hbx2).blk
 have hgs : g < w.heap.size + 1 := by omega
 have hcs := data_cases (acks := acks) (own := own) hok
 rw [ht] at hcs
 rcases hcs with ⟨e, _⟩ | ⟨-, ⟨m1, m2⟩, ⟨m3, m4⟩, ⟨m5, m6⟩, hcs⟩
 ·cases e
 ·have hcs2 : ((own != 4) = false ∧ (x.kd == 2) = true ∧ (x.kd == 1) = false) ∨ ((own != 4) = true ∧ decide (0 < acks) = false ∧ (x.kd == 2) = false ∧ (x.kd == 1) = true ∧ (own != 1) = false) ∨ ((own != 4) = true ∧ decide (0 < acks) = false ∧ (x.kd == 2) = false ∧ (x.kd == 1) = true ∧ (own != 1) = true ∧ (own != 2) = false) := by
   rcases hcs with h1 | ⟨h1, ⟨_, h2⟩, h3, h4, h5 | ⟨h5, h6⟩⟩
   ·exact .inl h1
   ·exact .inr (.inl ⟨h1, h2, h3, h4, h5⟩)
   ·exact .inr (.inr ⟨h1, h2, h3, h4, h5, h6⟩)
  clear hp hok ht hbx hbx2 hrow hwd hcs
  rcases hcs2 with ⟨f1, f2, f3⟩ | ⟨f1, f2, f3, f4, f5⟩ | ⟨f1, f2, f3, f4, f5, f6⟩
  all_goals
   as_aux_lemma =>
   have HH := Lib.hid h
   have HHX := Lib.hid hx
   clear h hx
   go_enter Tryz.func83, Tryz.ntmps83
   go_wp2_with fail
   refine HP.out.mono ?_
   rintro e w1 ⟨rfl, rfl⟩
   simp only [oi]
   go_wp2_with (first
    | ((with_reducible refine wpList_load_mid (op := ⟨some 24, _, _, _, _, _⟩) rfl 75 (.tmp 23) rfl g (i * 15) ?lx (mc x) _ ?lc Tryz.underlying75 ?ld ?li ?_); (case lx => rfl); (case lc => exact HR.out); (case ld => rfl); (case li => kernel_rfl))
    | ((with_reducible refine wpList_store_row (o := ⟨none, _, _, _, _, _⟩) rfl 75 (.tmp 12) (.tmp 24) rfl (w.heap.size + 1) (mcells x) ?sx ?sy 75 ?old ?sg ?si ?so ?s1 ?_); (case sx => rfl); (case sy => rfl); (case old => exact #[.int .i64 0, .int .i64 0, .int .i64 0, .int .i64 0, .int .i64 0, .int .i64 0, .int .i64 0, .int .i64 0, .int .i64 0, .int .i64 0, .int .i64 0, .int .i64 0, .int .i64 0, .bool false, .bool false]); (case sg => exact heap_row2 w _ _ _); (case si => kernel_rfl); (case so => rfl); (case s1 => kernel_rfl); generalize ((w.alloc (.cells (dcells d) 36)).alloc (.cells #[.int .i64 0, .int .i64 0, .int .i64 0, .int .i64 0, .int .i64 0, .int .i64 0, .int .i64 0, .int .i64 0, .int .i64 0, .int .i64 0, .int .i64 0, .int .i64 0, .int .i64 0, .bool false, .bool false] 75)).setRow (w.heap.size + 1) (mcells x) = w2 at *; have hA := blk_cell HX.out)
    | ((with_reducible refine wpList_store_own (op := ⟨none, _, _, _, _, _⟩) rfl 3 (.tmp 67) (.tmp 66) rfl (w.heap.size + 1) 2 (.int .i64 acks) ?sx ?sy (mcells x) 75 ?sg ?si ?sf ?s1 (mcells { x with nd := acks }) ?sn ?_); (case sx => rfl); (case sy => rfl); (case sg => exact HX.out); (case si => kernel_rfl); (case sf => exact Nat.le_of_ble_eq_true rfl); (case s1 => intro u hu; simp [Value.cells] at hu; subst hu; rfl); (case sn => rfl); intro w3 g3 r31 r32 r33 r34 r35; have HX3 := Lib.hid g3; have HB3 := Lib.hid (below_part HB.out (by omega) r31 r32 r33 r34 r35); have HWD3 := Lib.hid ((r35 w.heap.size (by omega)).trans HWD.out); clear g3 r31 r32 r33 r34 r35 hA)
    | ((with_reducible refine wpList_store_own (op := ⟨none, _, _, _, _, _⟩) rfl 3 (.tmp 69) (.tmp 68) rfl (w.heap.size + 1) 4 (.int .i64 own) ?sx ?sy (mcells { x with nd := acks }) 75 ?sg ?si ?sf ?s1 (mcells { x with nd := acks, ow := own }) ?sn ?_); (case sx => rfl); (case sy => rfl); (case sg => exact HX3.out); (case si => kernel_rfl); (case sf => exact Nat.le_of_ble_eq_true rfl); (case s1 => intro u hu; simp [Value.cells] at hu; subst hu; rfl); (case sn => rfl); intro w4 g4 r41 r42 r43 r44 r45; have HX4 := Lib.hid g4; have HB4 := Lib.hid (below_part HB3.out (by omega) r41 r42 r43 r44 r45); have hW := blk_cell ((r45 w.heap.size (by omega)).trans HWD3.out); clear g4 r41 r42 r43 r44 r45)
    | ((with_reducible refine wpList_store_own (op := ⟨none, _, _, _, _, _⟩) rfl 36 (.tmp 71) (.tmp 70) rfl (w.heap.size + 1) 5 (.agg (dcells d)) ?sx ?sy (mcells { x with nd := acks, ow := own }) 75 ?sg ?si ?sf ?s1 (mcells (dataY acks own d x)) ?sn ?_); (case sx => rfl); (case sy => rfl); (case sg => exact HX4.out); (case si => kernel_rfl); (case sf => exact Nat.le_of_ble_eq_true rfl); (case s1 => exact words_one d); (case sn => rfl); intro w5 g5 r51 r52 r53 r54 r55; have HX5 := Lib.hid g5; have HB5 := Lib.hid (below_part HB4.out (by omega) r51 r52 r53 r54 r55); clear g5 r51 r52 r53 r54 r55 hW; have hA := blk_cell HX5.out; have c2 := blk_cell (HH.out.below HB5.out).blk 1; simp at c2))
   have HA5 := Lib.hid ((HH.out.below HB5.out).at1 HHX.out)
   have HE := Lib.hid (gave_store HH.out HB5.out.drew HHX.out (dataY acks own d x) 0 (mc (dataY acks own d x)) (by rw [mc_len]; omega) (fun m _ => by rw [Nat.zero_add]) (fun m h1 h2 => by rw [mc_len] at h2; omega))
   go_still_tail 7, (by kernel_rfl)
   change wpList _ _ _ _ _ w5.drew
   have HTH : Hid (w5.drew.there g (i * 15) (mcells (dataY acks own d x)).size) := Lib.hid (fun m hm => by
    have hm15 : m < 15 := hm
    refine ⟨?_, HA5.out.fz _⟩
    have := HA5.out.row m ((mc x)[m]'(by rw [mc_len]; exact hm15)) (List.getElem?_eq_getElem _)
    show (w5.cell? ⟨g, i * 15 + m, none⟩).isSome = true
    rw [this]
    rfl)
   clear hA c2
   go_wp2_with ((with_reducible refine wpList_store_mid (op := ⟨none, _, _, _, _, _⟩) rfl 75 (.tmp 78) (.tmp 77) rfl g (i * 15) (mcells (dataY acks own d x)) ?sx ?sy ?st ?si ?s1 ?_); (case sx => rfl); (case sy => rfl); (case st => exact HTH.out); (case si => kernel_rfl); (case s1 => kernel_rfl))
   go_ret
   exact ⟨rfl, HE.out⟩

theorem refData_none {w : World} {B b : Nat} {room : Int} {l : List Ms} {v : Value} (h : BgD w B b room l v) (line acks own : Int) (d : Wd) (hl8 : l.length ≤ 5000) (hp : fnd l line = none) :
  Calls Tryz.prog 83 #[.pointer (some ⟨b, 0, none⟩), .int .i64 line, .int .i64 acks, .int .i64 own, .agg (dcells d)] w fun e w' => e = .returned (.int .i64 5) ∧ Below w.heap.size w w' := by
 have hbx := balloc w (.cells (dcells d) 36)
 have HP := refPlace_any (h.below hbx) line hl8
 rw [hp] at HP
 have HP := Lib.hid HP
 have HB := Lib.hid hbx
 clear h hp hbx
 go_enter Tryz.func83, Tryz.ntmps83
 go_wp2_with fail
 refine HP.out.mono ?_
 rintro e w1 ⟨rfl, rfl⟩
 simp only [oi]
 go_wp2
 go_ret
 exact ⟨rfl, HB.out⟩
theorem refData_any {w : World} {B b : Nat} {room k : Int} {l : List Ms} {v : Value} (h : BgD w B b room l v) (gd : Good room k l) (line acks own : Int) (d : Wd) :
  Calls Tryz.prog 83 #[.pointer (some ⟨b, 0, none⟩), .int .i64 line, .int .i64 acks, .int .i64 own, .agg (dcells d)] w (GaveD w B b room v (chg l line (dataF acks own d))) := by
 have hl := gd.len
 have hr := gd.r2
 rcases hp : fnd l line with _ | i
 ·rw [chg_none _ hp]
  exact (refData_none h line acks own d (by omega) hp).mono fun e w' ⟨h1, h2⟩ => ⟨h1, gave_same h h2⟩
 ·obtain ⟨x, hx, _, hi⟩ := fnd_some hp
  obtain ⟨g, cap, rfl, _⟩ := h.one hx
  rcases Bool.eq_false_or_eq_true (tkes x acks own) with ht | ht
  ·rw [chg_yes hp hx (dataF_yes d ht)]
   exact (refData_yes h line acks own d (by omega) hp hx (gd.at hx) ht).mono fun e w' ⟨h1, h2⟩ => ⟨h1, h2⟩
  ·rw [chg_no hp hx (dataF_no d ht)]
   exact (refData_no h line acks own d (by omega) hp hx (gd.at hx) ht).mono fun e w' ⟨h1, h2⟩ => ⟨h1, gave_same h h2⟩

end Go.Proofs.YtlfhkjjjocmpbaaGreatDoor.Mh

namespace Go.Proofs.YtlfhkjjjocmpbaaGreatDoor.Mh
open Go Go.RowKit

def Blk (l : List Ms) : Prop := ∀ x ∈ l, x.nd = -1 → x.wd = d0
theorem PutGave.trans {T e : TypeId} {w w1 w2 : World} {B b : Nat} {room : Int} {m : List Ms} {v v1 : Value} (ht : Turn b v w w1) (hf : Fresh w v v1) (h : PutGave T e 15 mc w1 B b room m v1 w2) : PutGave T e 15 mc w B b room m v w2 := by
 obtain ⟨v2, h1, h2, h3⟩ := h
 refine ⟨v2, h1, ht.trans h2 hf, fun k hk => ?_⟩
 rcases h3 k hk with e | e
 ·exact hf k e
 ·exact .inr (Nat.le_trans ht.size e)

set_option maxHeartbeats 1000000 in
theorem refGrant_err {w : World} {B b : Nat} {room k : Int} {l : List Ms} {v : Value} (h : BgD w B b room l v) (gd : Good room k l) (line acks : Int) {n : Int} (hn : (n != 0) = true) (e : chg l line (dataF acks 4 d0) = (n, l)) :
  Calls Tryz.prog 84 #[.pointer (some ⟨b, 0, none⟩), .int .i64 line, .int .i64 acks] w fun e w' => e = .returned (.int .i64 n) ∧ PutGave 62 75 15 mc w B b room l v w' := by
 have HD := refData_any h gd line acks 4 d0
 rw [e] at HD
 have HD := Lib.hid HD
 clear h gd e
 go_enter Tryz.func84, Tryz.ntmps84
 go_wp2_with fail
 refine HD.out.mono ?_
 rintro e w1 ⟨rfl, R⟩
 have R := Lib.hid R
 go_wp2
 go_ret
 exact ⟨rfl, R.out⟩
set_option maxRecDepth 100000 in
set_option maxHeartbeats 1000000 in
theorem refGrant_yes {w : World} {B b : Nat} {room k : Int} {l : List Ms} {v : Value} (h : BgD w B b room l v) (gd : Good room k l) (line acks : Int) {i : Nat} {x : Ms} (hp : fnd l line = some i) (hx : l[i]? = some x) (hw0 : x.wd = d0) (ht : tkes x acks 4 = true) :
  Calls Tryz.prog 84 #[.pointer (some ⟨b, 0, none⟩), .int .i64 line, .int .i64 acks] w fun e w' => e = .returned (.int .i64 0) ∧ PutGave 62 75 15 mc w B b room (l.set i (grantY acks x)) v w' := by
 have HD := refData_any h gd line acks 4 d0
 have hg1 := gd.data line acks 4 d0
 have hch := chg_yes hp hx (dataF_yes d0 ht)
 rw [hch] at HD hg1
 have HD := Lib.hid HD
 have hl1 := hg1.len
 have hr1 := hg1.r2
 have hx1 := set_at hx (dataY acks 4 d0 x)
 have hln : x.ln = line := by
  obtain ⟨y, hy, e, _⟩ := fnd_some hp
  rw [hx] at hy
  cases hy
  exact e
 have hp1 : fnd (l.set i (dataY acks 4 d0 x)) line = some i := by
  have := fnd_at hg1.uq hx1
  rwa [show (dataY acks 4 d0 x).ln = line from hln] at this
 have hl8 : (l.set i (dataY acks 4 d0 x)).length ≤ 5000 := by
  simp only at hl1
  omega
 have hfin : (l.set i (dataY acks 4 d0 x)).set i (grantY acks x) = l.set i (grantY acks x) := List.set_set ..
 have HFN := Lib.hid hfin
 have HX1 := Lib.hid hx1
 have hi1 := (List.getElem?_eq_some_iff.1 hx).1
 have HP := Lib.hid (fun (w1 : World) (v1 : Value) (hb : BgD w1 B b room (l.set i (dataY acks 4 d0 x)) v1) => by
  have := refPlace_any hb line hl8
  rw [hp1] at this
  exact (this.mono fun e w' ⟨h1, h2⟩ => ⟨h1, h2.symm⟩ : Calls Tryz.prog 126 #[.pointer (some ⟨b, 0, none⟩), .int .i64 line] w1 fun e w' => e = .returned (.int .i64 (i : Int)) ∧ w' = w1))
 have HW0 : Hid (∀ m, m < 15 → m < 13 ∨ 13 + 1 ≤ m → (mc (grantY acks x))[m]? = (mc (dataY acks 4 d0 x))[m]?) := Lib.hid (fun m hm hm2 => by
  obtain ⟨ln, kd, nd, gt, ow, wd, gr, os⟩ := x
  obtain rfl : wd = d0 := hw0
  rcases (show m = 0 ∨ m = 1 ∨ m = 2 ∨ m = 3 ∨ m = 4 ∨ m = 5 ∨ m = 6 ∨ m = 7 ∨ m = 8 ∨ m = 9 ∨ m = 10 ∨ m = 11 ∨ m = 12 ∨ m = 14 by omega) with rfl | rfl | rfl | rfl | rfl | rfl | rfl | rfl | rfl | rfl | rfl | rfl | rfl | rfl
  all_goals rfl)
 clear h gd hp hx hw0 ht hg1 hch hx1 hp1 hl1 hr1 hln hfin
 go_enter Tryz.func84, Tryz.ntmps84
 go_wp2_with fail
 refine HD.out.mono ?_
 rintro e w1 ⟨rfl, R⟩
 obtain ⟨v1, hb1, ht1, hf1⟩ := R
 simp only at hb1
 obtain ⟨g, cap, rfl, _, hgl, _, hr, hfz, _, _⟩ := hb1.one HX1.out
 have HB1 := Lib.hid hb1
 have HT := Lib.hid ht1
 have HF := Lib.hid hf1
 have c1 := blk_cell hb1.blk 1
 simp at c1
 have c13 := hr 13 _ rfl
 have f13 := hfz (i * 15 + 13)
 have HE := Lib.hid (PutGave.trans ht1 hf1 (gave_store hb1 (Below.refl _ _).drew HX1.out (grantY acks x) 13 [.bool true] (by simp) (fun m hm => by simp at hm; subst hm; rfl) HW0.out))
 have HPW := Lib.hid (HP.out _ _ hb1.drew1)
 clear hb1 ht1 hf1 hr hfz HP
 go_wp2
 refine wp_region_still_tail 9 (by kernel_rfl) (by kernel_rfl) ?_
 simp only [List.take_succ_cons, List.take_zero, List.drop_succ_cons, List.drop_zero]
 repeat still_step
 still_call HPW.out
 repeat still_step
 refine wpStill_nil ?_
 change wpList _ _ _ _ _ w1.drew
 clear c1
 go_wp2
 go_ret
 rw [← HFN.out]
 exact ⟨rfl, HE.out⟩
theorem refGrant_any {w : World} {B b : Nat} {room k : Int} {l : List Ms} {v : Value} (h : BgD w B b room l v) (gd : Good room k l) (hbk : Blk l) (line acks : Int) :
  Calls Tryz.prog 84 #[.pointer (some ⟨b, 0, none⟩), .int .i64 line, .int .i64 acks] w (GaveD w B b room v (chg l line (grantF acks))) := by
 rcases hp : fnd l line with _ | i
 ·rw [chg_none _ hp]
  exact (refGrant_err h gd line acks (by decide) (chg_none _ hp)).mono fun e w' ⟨h1, h2⟩ => ⟨h1, h2⟩
 ·obtain ⟨x, hx, _, hi⟩ := fnd_some hp
  rcases Bool.eq_false_or_eq_true (tkes x acks 4) with ht | ht
  ·rw [chg_yes hp hx (grantF_yes ht)]
   have hk := (tkes_iff ht).1
   have hnd : x.nd = -1 := by simpa [knw] using hk
   exact (refGrant_yes h gd line acks hp hx (hbk x (List.mem_of_getElem? hx) hnd) ht).mono fun e w' ⟨h1, h2⟩ => ⟨h1, h2⟩
  ·rw [chg_no hp hx (grantF_no ht)]
   exact (refGrant_err h gd line acks (by decide) (chg_no hp hx (dataF_no d0 ht))).mono fun e w' ⟨h1, h2⟩ => ⟨h1, h2⟩

end Go.Proofs.YtlfhkjjjocmpbaaGreatDoor.Mh

namespace Go.Proofs.YtlfhkjjjocmpbaaGreatDoor.Mh
open Go Go.RowKit

theorem Blk.nil : Blk [] := fun x hx => by cases hx
theorem Blk.set {l : List Ms} (h : Blk l) {i : Nat} {y : Ms} (hy : y.nd = -1 → y.wd = d0) : Blk (l.set i y) := fun z hz => by
 rcases List.mem_or_eq_of_mem_set hz with h1 | rfl
 ·exact h z h1
 ·exact hy
theorem Blk.open {l : List Ms} (h : Blk l) (room line kind : Int) : Blk (openP room l line kind).2 := by
 unfold openP
 split
 ·exact h
 ·split
  ·exact h
  ·split
   ·exact h
   ·intro z hz
    rcases List.mem_append.1 hz with h1 | h1
    ·exact h z h1
    ·obtain rfl : z = newM line kind := by simpa using h1
     exact fun _ => rfl
theorem Blk.chg {l : List Ms} (h : Blk l) (line : Int) {f : Ms → Option Ms} (hf : ∀ x ∈ l, ∀ y, f x = some y → y.nd = -1 → y.wd = d0) : Blk (Go.Proofs.YtlfhkjjjocmpbaaGreatDoor.Mh.chg l line f).2 := by
 rcases hp : fnd l line with _ | i
 ·rw [chg_none f hp]; exact h
 ·obtain ⟨x, hx, _, _⟩ := fnd_some hp
  rcases hq : f x with _ | y
  ·rw [chg_no hp hx hq]; exact h
  ·rw [chg_yes hp hx hq]
   exact h.set (hf x (List.mem_of_getElem? hx) y hq)
theorem Blk.data {room k : Int} {l : List Ms} (h : Blk l) (g : Good room k l) (line acks own : Int) (d : Wd) : Blk (Go.Proofs.YtlfhkjjjocmpbaaGreatDoor.Mh.chg l line (dataF acks own d)).2 := h.chg line fun x hx y e hn => by
 rcases Bool.eq_false_or_eq_true (tkes x acks own) with ht | ht
 ·rw [dataF_yes d ht] at e
  cases e
  have := (tkes_iff ht).2.1
  have := (g.each x hx).g0
  simp only [dataY] at hn
  omega
 ·rw [dataF_no d ht] at e; cases e
theorem Blk.grant {room k : Int} {l : List Ms} (h : Blk l) (g : Good room k l) (line acks : Int) : Blk (Go.Proofs.YtlfhkjjjocmpbaaGreatDoor.Mh.chg l line (grantF acks)).2 := h.chg line fun x hx y e hn => by
 rcases Bool.eq_false_or_eq_true (tkes x acks 4) with ht | ht
 ·rw [grantF_yes ht] at e
  cases e
  have := (tkes_iff ht).2.1
  have := (g.each x hx).g0
  simp only [grantY] at hn
  omega
 ·rw [grantF_no ht] at e; cases e
theorem Blk.ack {l : List Ms} (h : Blk l) (line : Int) : Blk (Go.Proofs.YtlfhkjjjocmpbaaGreatDoor.Mh.chg l line ackF).2 := h.chg line fun x hx y e hn => by
 rcases Bool.eq_false_or_eq_true (x.kd == 1 || came x) with ht | ht
 ·rw [ackF_no ht] at e; cases e
 ·rw [ackF_yes ht] at e
  cases e
  exact h x hx hn
theorem Blk.owe {l : List Ms} (h : Blk l) (line : Int) : Blk (oweP l line).2 := by
 rcases hp : fnd l line with _ | i
 ·rw [oweP_none hp]; exact h
 ·obtain ⟨x, hx, _, _⟩ := fnd_some hp
  rcases Bool.eq_false_or_eq_true (x.os || !came x) with ht | ht
  ·rw [oweP_no hp hx ht]; exact h
  ·rw [oweP_yes hp hx ht]
   exact h.set (y := owesY x) fun hn => h x (List.mem_of_getElem? hx) hn
theorem Blk.close {l : List Ms} (h : Blk l) (line : Int) : Blk (closeP l line).2 := by
 rcases hp : fnd l line with _ | i
 ·rw [closeP_none hp]; exact h
 ·obtain ⟨x, hx, _, _⟩ := fnd_some hp
  rcases Bool.eq_false_or_eq_true x.os with ht | ht
  ·rw [closeP_yes hp hx ht]
   exact fun z hz => h z ((List.eraseIdx_sublist l i).subset hz)
  ·rw [closeP_no hp hx ht]; exact h

end Go.Proofs.YtlfhkjjjocmpbaaGreatDoor.Mh

namespace Go.Proofs.YtlfhkjjjocmpbaaGreatDoor.Mh
open Go Go.RowKit

def GaveE (w : World) (B b : Nat) (room : Int) (v : Value) (r : (Ms × Bool) × List Ms) (e : Ending) (w' : World) : Prop :=
 e = .returned (.tuple #[.agg (mcells r.1.1), .bool r.1.2]) ∧ PutGave 62 75 15 mc w B b room r.2 v w'
theorem refOwe_ret {wr : World} {x : Ms} {q : Bool} {P : World → Prop} {a : Act} {g : Nat} (hp : a.tmps.getD 4 undef = .pointer (some ⟨g, 0, none⟩)) (hq : a.tmps.getD 5 undef = .bool q) (hd : a.defers = []) (hg : wr.heap[g]? = some (.cells (mcells x) 75 (0, 0))) (hb : P wr) :
  bodyPost Tryz.prog Tryz.f87 (RetR x q P) Exit.ret a wr :=
 bodyPost_ret (v := .tuple #[.agg (mcells x), a.tmps.getD 5 undef]) (results_cell_two Tryz.results87 _ _ g 75 _ (0, 0) _ hp hg Tryz.underlying75 rfl (by kernel_rfl)) hd ⟨by rw [hq], hb⟩
theorem drew_box {w : World} {o : Obj} (n : Nat) : ((w.alloc o).drewN n).heap[w.heap.size]? = some o := heap_alloc_new w o

set_option maxRecDepth 100000 in
set_option maxHeartbeats 2000000 in
theorem refOwe_none {w : World} {B b : Nat} {room : Int} {l : List Ms} {v : Value} (h : BgD w B b room l v) (line : Int) (hl : l.length ≤ 5000) (hp : fnd l line = none) :
  Calls Tryz.prog 87 #[.pointer (some ⟨b, 0, none⟩), .int .i64 line] w (RetR m0 false (Below w.heap.size w)) := by
 have HP := fun (o : Obj) => refPlace_any (h.below (balloc w o)) line hl
 rw [hp] at HP
 have HP := Lib.hid HP
 clear h hp
 go_enter Tryz.func87, Tryz.ntmps87
 go_wp2_with fail
 refine (HP.out _).mono ?_
 rintro e w1 ⟨rfl, rfl⟩
 simp only [oi]
 have hneg : decide ((-1 : Int) < 0) = true := by decide
 go_wp2
 go_quiet (fail)
 go_wp2_with ((with_reducible refine wpList_store_row (o := ⟨none, _, _, _, _, _⟩) rfl 75 (.tmp 4) (.tmp 53) rfl w.heap.size (mcells m0) ?sx ?sy 75 ?old ?sg ?si ?so ?s1 ?_); (case sx => rfl); (case sy => rfl); (case old => exact mcells m0); (case sg => exact drew_box _); (case si => kernel_rfl); (case so => rfl); (case s1 => kernel_rfl))
 exact refOwe_ret rfl rfl rfl (setRow_heap _ _ _ _ _ _ (drew_box _)) (below_setRow (below_drewN (balloc w _) _) (Nat.le_refl _) _)

set_option maxRecDepth 100000 in
set_option maxHeartbeats 2000000 in
theorem refOwe_no {w : World} {B b : Nat} {room k : Int} {l : List Ms} {g cap : Nat} (h : BgD w B b room l (.slice (some ⟨g, 0, none⟩) l.length cap)) (line : Int) (hl : l.length ≤ 5000) {i : Nat} {x : Ms} (hp : fnd l line = some i) (hx : l[i]? = some x) (hok : Ok k x) (ht : (x.os || !came x) = true) :
  Calls Tryz.prog 87 #[.pointer (some ⟨b, 0, none⟩), .int .i64 line] w (RetR m0 false (Below w.heap.size w)) := by
 have HP := fun (o : Obj) => refPlace_any (h.below (balloc w o)) line hl
 rw [hp] at HP
 have HP := Lib.hid HP
 have hi := (List.getElem?_eq_some_iff.1 hx).1
 have hni : decide ((i : Int) < 0) = false := by simp
 have HC := Lib.hid (fun (o : Obj) => blk_cell (h.below (balloc w o)).blk 1)
 have HA := Lib.hid (fun (o : Obj) => (h.below (balloc w o)).at1 hx)
 obtain ⟨ln, kd, nd, gt, ow, wd, gr, os⟩ := x
 have hcs : os = true ∨ os = false ∧ nd < 0 ∧ decide (nd < 0) = true ∨ os = false ∧ 0 ≤ nd ∧ decide (nd < 0) = false ∧ (nd != gt) = true := by
  have hnd := hok.nd
  simp only at hnd
  simp [came, knw] at ht
  rcases Bool.eq_false_or_eq_true os with e | e
  ·exact .inl e
  ·by_cases h0 : nd < 0
   ·exact .inr (.inl ⟨e, h0, by simpa using h0⟩)
   ·refine .inr (.inr ⟨e, by omega, by simpa using h0, ?_⟩)
    simp [e] at ht
    simp
    omega
 clear h hp hx hok ht
 rcases hcs with rfl | ⟨rfl, h0, h1⟩ | ⟨rfl, h0, h1, h2⟩
 all_goals
  go_enter Tryz.func87, Tryz.ntmps87
  go_wp2_with fail
  refine (HP.out _).mono ?_
  rintro e w1 ⟨rfl, rfl⟩
  simp only [oi]
  have c1 := HC.out (.cells #[.int .i64 0, .int .i64 0, .int .i64 0, .int .i64 0, .int .i64 0, .int .i64 0, .int .i64 0, .int .i64 0, .int .i64 0, .int .i64 0, .int .i64 0, .int .i64 0, .int .i64 0, .bool false, .bool false] 75)
  simp at c1
  obtain ⟨-, -, q2, q3, -, -, -, -, -, -, -, -, -, -, q14⟩ := (HA.out (.cells #[.int .i64 0, .int .i64 0, .int .i64 0, .int .i64 0, .int .i64 0, .int .i64 0, .int .i64 0, .int .i64 0, .int .i64 0, .int .i64 0, .int .i64 0, .int .i64 0, .int .i64 0, .bool false, .bool false] 75)).cellsF
  go_wp2
  go_quiet (fail)
  go_wp2_with ((with_reducible refine wpList_store_row (o := ⟨none, _, _, _, _, _⟩) rfl 75 (.tmp 4) (.tmp 53) rfl w.heap.size (mcells m0) ?sx ?sy 75 ?old ?sg ?si ?so ?s1 ?_); (case sx => rfl); (case sy => rfl); (case old => exact mcells m0); (case sg => exact drew_box _); (case si => kernel_rfl); (case so => rfl); (case s1 => kernel_rfl))
  exact refOwe_ret rfl rfl rfl (setRow_heap _ _ _ _ _ _ (drew_box _)) (below_setRow (below_drewN (balloc w _) _) (Nat.le_refl _) _)

set_option maxRecDepth 100000 in
set_option maxHeartbeats 2000000 in
theorem refOwe_yes {w : World} {B b : Nat} {room : Int} {l : List Ms} {g cap : Nat} (h : BgD w B b room l (.slice (some ⟨g, 0, none⟩) l.length cap)) (line : Int) (hl : l.length ≤ 5000) {i : Nat} {x : Ms} (hp : fnd l line = some i) (hx : l[i]? = some x) (hnd : -1 ≤ x.nd) (ht : (x.os || !came x) = false) :
  Calls Tryz.prog 87 #[.pointer (some ⟨b, 0, none⟩), .int .i64 line] w (RetR x true (PutGave 62 75 15 mc w B b room (l.set i (owesY x)) (.slice (some ⟨g, 0, none⟩) l.length cap))) := by
 have HP := fun (o : Obj) => refPlace_any (h.below (balloc w o)) line hl
 rw [hp] at HP
 have HP := Lib.hid HP
 have hi := (List.getElem?_eq_some_iff.1 hx).1
 have hni : decide ((i : Int) < 0) = false := by simp
 have HC := Lib.hid (fun w1 (hb : Below w.heap.size w w1) => blk_cell (h.below hb).blk 1)
 have HA := Lib.hid (fun w1 (hb : Below w.heap.size w w1) => (h.below hb).at1 hx)
 have hgl := (h.row.lt g rfl).2
 have HE : Hid (∀ w1 (cs : Array Value), Below w.heap.size w w1 → PutGave 62 75 15 mc w B b room (l.set i (owesY x)) (.slice (some ⟨g, 0, none⟩) l.length cap) ((w1.setCell ⟨g, i * 15 + 14, none⟩ (.bool true)).setRow w.heap.size cs)) := Lib.hid (fun w1 cs hb =>
  gave_store_row h hb hx (owesY x) 14 [.bool true] (by simp) (fun m hm => by simp at hm; subst hm; rfl) (fun m hm hm2 => by
   simp at hm2
   rcases (show m = 0 ∨ m = 1 ∨ m = 2 ∨ m = 3 ∨ m = 4 ∨ m = 5 ∨ m = 6 ∨ m = 7 ∨ m = 8 ∨ m = 9 ∨ m = 10 ∨ m = 11 ∨ m = 12 ∨ m = 13 by omega) with rfl | rfl | rfl | rfl | rfl | rfl | rfl | rfl | rfl | rfl | rfl | rfl | rfl | rfl
   all_goals rfl) w.heap.size (Nat.le_refl _) cs)
 obtain ⟨ln, kd, nd, gt, ow, wd, gr, os⟩ := x
 have hcs : os = false ∧ 0 ≤ nd ∧ decide (nd < 0) = false ∧ (nd != gt) = false := by
  simp only at hnd
  simp [came, knw] at ht
  obtain ⟨h1, h2, h3⟩ := ht
  refine ⟨h1, by omega, by simp; omega, by simp; omega⟩
 obtain ⟨rfl, h0, h1, h2⟩ := hcs
 clear h hp hx hnd ht
 go_enter Tryz.func87, Tryz.ntmps87
 go_wp2_with fail
 refine (HP.out _).mono ?_
 rintro e w1 ⟨rfl, rfl⟩
 simp only [oi]
 have c1 := HC.out _ (balloc w (.cells #[.int .i64 0, .int .i64 0, .int .i64 0, .int .i64 0, .int .i64 0, .int .i64 0, .int .i64 0, .int .i64 0, .int .i64 0, .int .i64 0, .int .i64 0, .int .i64 0, .int .i64 0, .bool false, .bool false] 75))
 simp at c1
 obtain ⟨-, -, q2, q3, -, -, -, -, -, -, -, -, -, -, q14⟩ := (HA.out _ (balloc w (.cells #[.int .i64 0, .int .i64 0, .int .i64 0, .int .i64 0, .int .i64 0, .int .i64 0, .int .i64 0, .int .i64 0, .int .i64 0, .int .i64 0, .int .i64 0, .int .i64 0, .int .i64 0, .bool false, .bool false] 75))).cellsF
 go_wp2
 go_quiet (fail)
 have hb2 := below_drewN (balloc w (.cells #[.int .i64 0, .int .i64 0, .int .i64 0, .int .i64 0, .int .i64 0, .int .i64 0, .int .i64 0, .int .i64 0, .int .i64 0, .int .i64 0, .int .i64 0, .int .i64 0, .int .i64 0, .bool false, .bool false] 75)) nq
 have hx2 := drew_box (w := w) (o := .cells #[.int .i64 0, .int .i64 0, .int .i64 0, .int .i64 0, .int .i64 0, .int .i64 0, .int .i64 0, .int .i64 0, .int .i64 0, .int .i64 0, .int .i64 0, .int .i64 0, .int .i64 0, .bool false, .bool false] 75) nq
 clear c1 q2 q3 q14
 generalize (w.alloc (.cells #[.int .i64 0, .int .i64 0, .int .i64 0, .int .i64 0, .int .i64 0, .int .i64 0, .int .i64 0, .int .i64 0, .int .i64 0, .int .i64 0, .int .i64 0, .int .i64 0, .int .i64 0, .bool false, .bool false] 75)).drewN nq = w3 at *
 have hz3 := lt_of_block hx2
 have c1 := HC.out _ hb2
 simp at c1
 have HR := Lib.hid (HA.out _ hb2).row
 have HB := Lib.hid (bstep hb2 (below_setRow (balloc w3 (.cells #[.int .i64 0, .int .i64 0, .int .i64 0, .int .i64 0, .int .i64 0, .int .i64 0, .int .i64 0, .int .i64 0, .int .i64 0, .int .i64 0, .int .i64 0, .int .i64 0, .int .i64 0, .bool false, .bool false] 75)) (Nat.le_refl _) (mcells ⟨ln, kd, nd, gt, ow, wd, gr, false⟩)))
 have c2 := HC.out _ HB.out
 simp at c2
 have HN := HA.out _ HB.out
 have c14 := HN.row 14 _ rfl
 have f14 := HN.fz (i * 15 + 14)
 have hbx := (Below.heap_alloc w3 (.cells #[.int .i64 0, .int .i64 0, .int .i64 0, .int .i64 0, .int .i64 0, .int .i64 0, .int .i64 0, .int .i64 0, .int .i64 0, .int .i64 0, .int .i64 0, .int .i64 0, .int .i64 0, .bool false, .bool false] 75) w.heap.size hz3).trans hx2
 have hbx2 := (setRow_other (w3.alloc (.cells #[.int .i64 0, .int .i64 0, .int .i64 0, .int .i64 0, .int .i64 0, .int .i64 0, .int .i64 0, .int .i64 0, .int .i64 0, .int .i64 0, .int .i64 0, .int .i64 0, .int .i64 0, .bool false, .bool false] 75)) w3.heap.size w.heap.size (mcells ⟨ln, kd, nd, gt, ow, wd, gr, false⟩) (by omega)).trans hbx
 have hbx3 := (heap_setCell_other _ ⟨g, i * 15 + 14, none⟩ w.heap.size (.bool true) (by simp only; omega)).trans hbx2
 have hb7 := (heap_setCell_other _ ⟨g, i * 15 + 14, none⟩ w3.heap.size (.bool true) (by simp only; omega)).trans (setRow_heap _ _ _ (mcells ⟨ln, kd, nd, gt, ow, wd, gr, false⟩) _ _ (heap_alloc_new w3 (.cells #[.int .i64 0, .int .i64 0, .int .i64 0, .int .i64 0, .int .i64 0, .int .i64 0, .int .i64 0, .int .i64 0, .int .i64 0, .int .i64 0, .int .i64 0, .int .i64 0, .int .i64 0, .bool false, .bool false] 75)))
 have H7 := Lib.hid hb7
 have H3 := Lib.hid hbx3
 have HB2 := Lib.hid hb2
 clear HN hbx hbx2 hbx3 hb7 hx2 hb2
 go_wp2_with (first
  | ((with_reducible refine wpList_load_mid (op := ⟨some 60, _, _, _, _, _⟩) rfl 75 (.tmp 59) rfl g (i * 15) ?lx (mc ⟨ln, kd, nd, gt, ow, wd, gr, false⟩) _ ?lc Tryz.underlying75 ?ld ?li ?_); (case lx => rfl); (case lc => exact HR.out); (case ld => rfl); (case li => kernel_rfl))
  | ((with_reducible refine wpList_store_row (o := ⟨none, _, _, _, _, _⟩) rfl 75 (.tmp 7) (.tmp 60) rfl w3.heap.size (mcells ⟨ln, kd, nd, gt, ow, wd, gr, false⟩) ?sx ?sy 75 ?old ?sg ?si ?so ?s1 ?_); (case sx => rfl); (case sy => rfl); (case old => exact mcells m0); (case sg => exact heap_alloc_new w3 _); (case si => kernel_rfl); (case so => rfl); (case s1 => kernel_rfl))
  | ((with_reducible refine wpList_load_row (o := ⟨some 68, _, _, _, _, _⟩) rfl 75 (.tmp 7) rfl w3.heap.size ?lx 75 (mcells ⟨ln, kd, nd, gt, ow, wd, gr, false⟩) (0, 0) _ ?lg Tryz.underlying75 ?ld ?li ?_); (case lx => rfl); (case lg => exact H7.out); (case ld => rfl); (case li => kernel_rfl))
  | ((with_reducible refine wpList_store_row (o := ⟨none, _, _, _, _, _⟩) rfl 75 (.tmp 4) (.tmp 68) rfl w.heap.size (mcells ⟨ln, kd, nd, gt, ow, wd, gr, false⟩) ?sx ?sy 75 ?old ?sg ?si ?so ?s1 ?_); (case sx => rfl); (case sy => rfl); (case old => exact mcells m0); (case sg => exact H3.out); (case si => kernel_rfl); (case so => rfl); (case s1 => kernel_rfl)))
 exact refOwe_ret rfl rfl rfl (setRow_heap _ _ _ _ _ _ H3.out) (HE.out _ _ HB.out)
theorem ret_ofE {x : Ms} {q : Bool} {P : World → Prop} {w : World} {B b : Nat} {room : Int} {v : Value} {r : (Ms × Bool) × List Ms} (e1 : r.1 = (x, q)) (h : ∀ w', P w' → PutGave 62 75 15 mc w B b room r.2 v w') : ∀ e w', RetR x q P e w' → GaveE w B b room v r e w' := fun e w' ⟨h1, h2⟩ => ⟨by rw [h1, e1], h w' h2⟩
theorem refOwe_any {w : World} {B b : Nat} {room k : Int} {l : List Ms} {v : Value} (h : BgD w B b room l v) (gd : Good room k l) (line : Int) :
  Calls Tryz.prog 87 #[.pointer (some ⟨b, 0, none⟩), .int .i64 line] w (GaveE w B b room v (oweP l line)) := by
 have hl := gd.len
 have hr := gd.r2
 rcases hp : fnd l line with _ | i
 ·rw [oweP_none hp]
  exact (refOwe_none h line (by omega) hp).mono (ret_ofE rfl fun _ hb => gave_same h hb)
 ·obtain ⟨x, hx, _, hi⟩ := fnd_some hp
  obtain ⟨g, cap, rfl, _⟩ := h.one hx
  rcases Bool.eq_false_or_eq_true (x.os || !came x) with ht | ht
  ·rw [oweP_no hp hx ht]
   exact (refOwe_no h line (by omega) hp hx (gd.at hx) ht).mono (ret_ofE rfl fun _ hb => gave_same h hb)
  ·rw [oweP_yes hp hx ht]
   exact (refOwe_yes h line (by omega) hp hx (gd.at hx).nd ht).mono (ret_ofE rfl fun _ hb => hb)

end Go.Proofs.YtlfhkjjjocmpbaaGreatDoor.Mh

namespace Go.Proofs.YtlfhkjjjocmpbaaGreatDoor.Mh
open Go Go.RowKit

def but (l : List Ms) (i k : Nat) : List Ms := (l.take k).eraseIdx i
theorem but_zero (l : List Ms) (i : Nat) : but l i 0 = [] := by simp [but]
theorem but_ne (l : List Ms) (i k : Nat) (x : Ms) (hx : l[k]? = some x) (h : k ≠ i) : but l i (k + 1) = but l i k ++ [x] := by
 obtain ⟨hk, e⟩ := List.getElem?_eq_some_iff.1 hx
 unfold but
 rw [List.take_succ_eq_append_getElem hk, e]
 have hl : (l.take k).length = k := by rw [List.length_take]; omega
 rcases Nat.lt_or_ge i k with hi | hi
 ·rw [List.eraseIdx_append_of_lt_length (by omega)]
 ·rw [List.eraseIdx_of_length_le (by simp; omega), List.eraseIdx_of_length_le (by omega)]
theorem but_eq (l : List Ms) (i : Nat) (hi : i < l.length) : but l i (i + 1) = but l i i := by
 unfold but
 rw [List.take_succ_eq_append_getElem hi]
 have hl : (l.take i).length = i := by rw [List.length_take]; omega
 rw [List.eraseIdx_append_of_length_le (by omega), hl, Nat.sub_self]
 simp [List.eraseIdx_of_length_le, hl]
theorem but_len (l : List Ms) (i k : Nat) : (but l i k).length ≤ k := by
 unfold but
 have h := List.length_eraseIdx_le (l.take k) i
 have h2 : (l.take k).length ≤ k := by rw [List.length_take]; omega
 omega

theorem wpList_load_at {P : Program} {ops : Array Oper} {rest : List Oper} {op : Oper} {a : Act} {w : World} {Q : Exit → Act → World → Prop} (hgd : op.guard = none) (ty : TypeId) (x : Operand) (ho : op.op = .load ty x)
  (b o : Nat) (hx : a.eval x = .pointer (some ⟨b, o, none⟩)) (cs : Array Value) (d : TypeDesc) (hc : w.rangeAt b o cs.toList)
  (hu : P.underlying ty = some d) (hd : d.isRow = true) (hi : (P.info? ty).map (·.size) = some cs.size)
  (h : wpList P ops Q rest (a.put op.dst (.agg cs)) w) : wpList P ops Q (op :: rest) a w :=
 wpList_load_mid hgd ty x ho b o hx cs.toList d hc hu hd (by simpa using hi) (by simpa using h)

def CloseRel (w : World) (l : List Ms) (i : Nat) (out t : Value) (wr : World) : Prop :=
 ∃ k : Nat, k ≤ l.length ∧ t = .int .i64 k ∧ wr.ownsRow w.heap.size 75 15 out (but l i k).length (cellsOf mc (but l i k)) ∧ Below w.heap.size w wr

theorem refClose_none {w : World} {B b : Nat} {room : Int} {l : List Ms} {v : Value} (h : BgD w B b room l v) (line : Int) (hl : l.length ≤ 5000) (hp : fnd l line = none) :
  Calls Tryz.prog 89 #[.pointer (some ⟨b, 0, none⟩), .int .i64 line] w fun e w' => e = .returned (.int .i64 5) ∧ w = w' := by
 have HP := refPlace_any h line hl
 rw [hp] at HP
 have HP := Lib.hid HP
 clear h hp
 go_enter Tryz.func89, Tryz.ntmps89
 go_wp2_with fail
 refine HP.out.mono ?_
 rintro e w1 ⟨rfl, rfl⟩
 simp only [oi]
 go_wp2
 go_ret
 exact ⟨rfl, rfl⟩
theorem refClose_no {w : World} {B b : Nat} {room : Int} {l : List Ms} {g cap : Nat} (h : BgD w B b room l (.slice (some ⟨g, 0, none⟩) l.length cap)) (line : Int) (hl : l.length ≤ 5000) {i : Nat} {x : Ms} (hp : fnd l line = some i) (hx : l[i]? = some x) (ht : x.os = false) :
  Calls Tryz.prog 89 #[.pointer (some ⟨b, 0, none⟩), .int .i64 line] w fun e w' => e = .returned (.int .i64 7) ∧ w = w' := by
 have HP := refPlace_any h line hl
 rw [hp] at HP
 have HP := Lib.hid HP
 have hi := (List.getElem?_eq_some_iff.1 hx).1
 have hni : ¬ (i : Int) < 0 := by omega
 have c1 := blk_cell h.blk 1
 simp at c1
 obtain ⟨g', cap', e0, _, _, _, hr, _, _, _⟩ := h.one hx
 obtain ⟨rfl, rfl⟩ : g = g' ∧ cap = cap' := by simpa using e0
 have c14 := (hr 14 _ rfl).trans (congrArg (fun z => some (Value.bool z)) ht)
 clear h hp hx ht hr e0
 go_enter Tryz.func89, Tryz.ntmps89
 go_wp2_with fail
 refine HP.out.mono ?_
 rintro e w1 ⟨rfl, rfl⟩
 simp only [oi]
 go_wp2
 go_ret
 exact ⟨rfl, rfl⟩

set_option maxRecDepth 100000 in
set_option maxHeartbeats 800000 in
theorem refClose_yes {w : World} {B b : Nat} {room : Int} {l : List Ms} {g cap : Nat} (h : BgD w B b room l (.slice (some ⟨g, 0, none⟩) l.length cap)) (hB : B ≤ w.heap.size) (line : Int) (hl : l.length ≤ 5000) {i : Nat} {x : Ms} (hp : fnd l line = some i) (hx : l[i]? = some x) (ht : x.os = true) :
  Calls Tryz.prog 89 #[.pointer (some ⟨b, 0, none⟩), .int .i64 line] w fun e w' => e = .returned (.int .i64 0) ∧ PutGave 62 75 15 mc w B b room (l.eraseIdx i) (.slice (some ⟨g, 0, none⟩) l.length cap) w' := by
 obtain ⟨i0, hi0, hz0, hz1, hz2⟩ := info_parts A39
 have HP := refPlace_any h line hl
 rw [hp] at HP
 have HP := Lib.hid HP
 have hi := (List.getElem?_eq_some_iff.1 hx).1
 have hni : ¬ (i : Int) < 0 := by omega
 have hlt := h.lt
 have hgl := (h.row.lt g rfl).2
 have c1 := blk_cell h.blk 1
 simp at c1
 obtain ⟨q, cap', e0, hin⟩ := h.ins
 obtain ⟨rfl, rfl⟩ : some (⟨g, 0, none⟩ : Addr) = q ∧ cap = cap' := by simpa using e0
 have HI := Lib.hid hin
 have H := Lib.hid h
 obtain ⟨g', e1, _, hr⟩ := hin i x hx
 obtain rfl : g = g' := by simpa using e1
 have c14 := (hr 14 _ rfl).trans (congrArg (fun z => some (Value.bool z)) ht)
 clear h hp hx ht hr e0 e1 hin
 go_enter Tryz.func89, Tryz.ntmps89
 go_wp2_with fail
 refine HP.out.mono ?_
 rintro e w1 ⟨rfl, rfl⟩
 simp only [oi]
 go_wp2
 go_loopw [6, 7] (fun out t wr => CloseRel w l i out t wr) (fun _ t _ => l.length - (intOf t).toNat)
 case atStart =>
  refine ⟨0, Nat.zero_le _, rfl, ?_, (Below.refl _ _).alloc (Nat.le_refl _) _⟩
  rw [but_zero]
  exact World.ownsRow_made w #[] 0 (Nat.le_refl _) (Nat.zero_le _) rfl
 case round =>
  obtain ⟨k, hk, rfl, hown, hb⟩ := hrel
  have hcc := (hb.cell (p := ⟨b, 1, none⟩) hlt).trans c1
  have hsz := hb.size
  have HO := Lib.hid hown
  have HB := Lib.hid hb
  clear hown hb c14
  by_cases hlk : k < l.length
  ·obtain ⟨y, hy⟩ : ∃ y, l[k]? = some y := ⟨_, List.getElem?_eq_getElem hlk⟩
   obtain ⟨g2, e2, _, hry⟩ := HI.out.step HB.out k y hy
   obtain rfl : g = g2 := by simpa using e2
   have HRY := Lib.hid hry
   have HY := Lib.hid hy
   clear hy hry e2
   by_cases hki : k = i
   ·have hne : ((k : Int) != (i : Int)) = false := by simp [hki]
    have HK := Lib.hid hki
    clear hki
    go_wp2
    go_roundw
    case rel =>
     refine ⟨k + 1, by omega, by go_num, ?_, HB.out⟩
     rw [HK.out, but_eq l i hi, ← HK.out]
     exact HK.out ▸ HO.out
    case measure => simp [intOf]; omega
   ·have hne : ((k : Int) != (i : Int)) = true := by simp; omega
    have HK := Lib.hid hki
    have hbl := but_len l i k
    have HOO := Lib.hid (HO.out.alloc (.cells (mcells y) 75))
    clear hki
    go_wp2_with (first
     | ((with_reducible refine wpList_load_at (op := ⟨some 42, _, _, _, _, _⟩) rfl 75 (.tmp 41) rfl g (k * 15) ?lx (mcells y) _ ?lc Tryz.underlying75 ?ld ?li ?_); (case lx => rfl); (case lc => exact HRY.out); (case ld => rfl); (case li => kernel_rfl))
     | (at_builtin; refine wpList_append_lies _ rfl (.tmp 35) (.tmp 43) 48 rfl w.heap.size 75 i0 (.agg (mcells m0)) 15 112 Tryz.underlying48 hi0 hz0 hz1 hz2 rfl (by decide) _ (but l i k).length (cellsOf mc (but l i k)) rfl HOO.out ⟨wr.heap.size, 0, none⟩ 1 1 (mc y) rfl rfl ?c1 ?c2 (by decide) ?c3 ?c4 ?c5 _ rfl ?_))
    case c1 => exact World.news_of_block (cs := mcells y) (t := 75) (fr := (0, 0)) (heap_alloc_new wr _)
    case c2 => exact mc_one _
    case c3 => simp only [maxLen]; omega
    case c4 => omega
    case c5 => simp; omega
    intro g' cap' w2 hown hgrow hat hlt2
    have hb2 := (HB.out.alloc (by omega) (.cells (mcells y) 75)).grown hgrow (by simp; omega) (fun k hk => (HO.out.lt k hk).1)
    have HO2 := Lib.hid hown
    have HB2 := Lib.hid hb2
    clear hown hgrow hat hb2
    go_wp2
    go_roundw
    case rel =>
     refine ⟨k + 1, by omega, by go_num, ?_, HB2.out⟩
     rw [but_ne l i k y HY.out HK.out, cellsOf_append, List.length_append]
     simpa [cellsOf] using HO2.out
    case measure => simp [intOf]; omega
  ·have hkl : k = l.length := by omega
   have hbk := (HB.out.block b hlt).trans H.out.blk
   have hfz := blk_free hbk 1
   obtain ⟨q, cq, hq⟩ : ∃ q cq, u6 = Value.slice q (but l i k).length cq := by
    rcases HO.out.2 with ⟨e, h0⟩ | ⟨g', cap', cur, e, _⟩
    ·exact ⟨none, 0, by rw [e, h0]⟩
    ·exact ⟨_, cap', e⟩
   subst hq
   have HK := Lib.hid hkl
   have HBK := Lib.hid hbk
   clear hkl hbk
   go_wp2
   go_ret
   refine ⟨rfl, gave_new (n := (but l i k).length) H.out HB.out hB ?_ ?_⟩
   ·rw [HK.out]; unfold but; rw [List.take_length]
   ·have := HO.out
    have e : but l i k = l.eraseIdx i := by rw [HK.out]; unfold but; rw [List.take_length]
    rw [e] at this ⊢
    exact this
theorem refClose_any {w : World} {B b : Nat} {room : Int} {l : List Ms} {v : Value} (h : BgD w B b room l v) (hB : B ≤ w.heap.size) (line : Int) (hl : l.length ≤ 5000) :
  Calls Tryz.prog 89 #[.pointer (some ⟨b, 0, none⟩), .int .i64 line] w (GaveD w B b room v (closeP l line)) := by
 rcases hp : fnd l line with _ | i
 ·rw [closeP_none hp]
  exact (refClose_none h line hl hp).mono fun e w' ⟨h1, h2⟩ => ⟨h1, gave_same h (h2 ▸ Below.refl _ _)⟩
 ·obtain ⟨x, hx, _, hi⟩ := fnd_some hp
  obtain ⟨g, cap, rfl, _⟩ := h.one hx
  rcases Bool.eq_false_or_eq_true x.os with ht | ht
  ·rw [closeP_yes hp hx ht]
   exact (refClose_yes h hB line hl hp hx ht).mono fun e w' ⟨h1, h2⟩ => ⟨h1, h2⟩
  ·rw [closeP_no hp hx ht]
   exact (refClose_no h line hl hp hx ht).mono fun e w' ⟨h1, h2⟩ => ⟨h1, gave_same h (h2 ▸ Below.refl _ _)⟩

end Go.Proofs.YtlfhkjjjocmpbaaGreatDoor.Mh
