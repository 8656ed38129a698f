import Derived.Test.YtlfhkjjjocmpbaaGreatDoorQLayWb
import Derived.Test.YtlfhkjjjocmpbaaGreatDoorSx
import Derived.Laws.AppendOwnNone
import Derived.Deep.RegionHeld3
import Derived.StillTailTactics

namespace Go.Proofs.YtlfhkjjjocmpbaaGreatDoor.Wb
open Go Go.RowKit

theorem refNew_yes (room : Int) (w : World) (h : 1 ≤ room) (h2 : room ≤ 8) :
  Calls Tryz.prog 35 #[.int .i64 room] w fun e w' => e = .returned (.tuple #[.pointer (some ⟨w.heap.size, 0, none⟩), .int .i64 0]) ∧ w.alloc (.cells #[.int .i64 room, .slice none 0 0] 64) = w' := by
 go_enter Tryz.func35, Tryz.ntmps35
 go_wp2
 go_ret2
 exact ⟨rfl, rfl⟩

set_option maxHeartbeats 1000000 in
theorem refPlace_any {w : World} {B b : Nat} {room : Int} {l : List En} {v : Value} (h : BgD w B b room l v) (line : Int) (hl : l.length ≤ 5000) :
  Calls Tryz.prog 71 #[.pointer (some ⟨b, 0, none⟩), .int .i64 line] w fun e w' => e = .returned (.int .i64 (oi (fnd l line))) ∧ w = w' := by
 obtain ⟨q, cap, rfl, hin⟩ := h.ins
 have c1 := blk_cell h.blk 1
 simp at c1
 have HI := Lib.hid hin
 clear h hin
 go_enter Tryz.func71, Tryz.ntmps71
 go_wp2
 go_loop [5] (fun i => ∃ k : Nat, k ≤ l.length ∧ i = .int .i64 k ∧ Hid (∀ (j : Nat) (x : En), j < k → l[j]? = some x → isL line x = false)) (fun i => l.length - (intOf i).toNat)
 case atStart => exact ⟨0, by omega, rfl, Lib.hid (fun j x hj => by omega)⟩
 case round =>
  obtain ⟨k, hk, rfl, HJ⟩ := hrel
  by_cases hlt : k < l.length
  ·obtain ⟨x, hx⟩ : ∃ x, l[k]? = some x := ⟨_, List.getElem?_eq_getElem hlt⟩
   obtain ⟨g, rfl, hg, hr⟩ := HI.out k x hx
   have c0 := hr 0 _ rfl
   rw [Nat.add_zero] at c0
   have HX := Lib.hid hx
   clear hx hr
   rcases Bool.eq_false_or_eq_true (x.ln == line) with he | he
   ·have HT : Hid (oi (fnd l line) = k) := Lib.hid (by unfold fnd; rw [find_some HX.out (by simpa [isL] using he) HJ.out]; rfl)
    go_wp2
    go_ret
    exact ⟨ret_int HT.out.symm, rfl⟩
   ·have HK : Hid (∀ (j : Nat) (y : En), j < k + 1 → l[j]? = some y → isL line y = false) := Lib.hid (fun j y hj hy => by
     by_cases e : j = k
     ·subst e
      obtain rfl : x = y := Option.some.inj (HX.out.symm.trans hy)
      exact he
     ·exact HJ.out j y (by omega) hy)
    go_wp2
    go_round
    case rel => exact ⟨k + 1, by omega, by go_num, HK⟩
    case measure => simp [intOf]; omega
  ·have HT : Hid (oi (fnd l line) = -1) := Lib.hid (by unfold fnd; rw [find_none (fun j x hx => HJ.out j x (by have := (List.getElem?_eq_some_iff.1 hx).1; omega) hx)]; rfl)
   go_wp2
   go_ret
   exact ⟨ret_int HT.out.symm, rfl⟩

end Go.Proofs.YtlfhkjjjocmpbaaGreatDoor.Wb

namespace Go.Proofs.YtlfhkjjjocmpbaaGreatDoor.Wb
open Go Go.RowKit
open List (setIfInBounds_toArray set_cons_zero set_cons_succ)

theorem step_append_sn {P : Program} {ops : Array Oper} {o : Oper} {a : Act} {w : World} {K : Act → World → Prop} {Q : Exit → Act → World → Prop} {E : Prop} (hgd : o.guard = none) (s x : Operand) (t : TypeId)
  (ho : o.op = .call { callee := .builtin .append, args := #[s, x], argTypes := #[t, t] })
  (base : Nat) (e : TypeId) (i : TypeInfo) (z : Value) (size bytes : Nat) (ht : P.underlying t = some (.slice e)) (hi : P.info? e = some i) (hz : i.zero = some z)
  (hsize : i.size = size) (hby : i.bytes = bytes) (hzs : z.cells.size = size) (hsz : 0 < size)
  (v : Value) (n : Nat) (xs : List Value) (hs : a.eval s = v) (hown : w.ownsRow base e size v n xs)
  (p : Option Addr) (m c : Nat) (news : List Value) (hx : a.eval x = .slice p m c) (hl : news.length = m * size) (hp : (p = none ∧ m = 0 ∧ c = 0) ∨ ∃ ad, p = some ad ∧ ∀ j u, news[j]? = some u → w.cell? (ad.add j) = some u) (h1 : ∀ u ∈ news, u.oneCell' = true)
  (h63 : n + m ≤ maxLen) (hbytes : (n + m) * bytes ≤ 140737488355328) (hbase : base ≤ w.heap.size)
  (h : ∀ v' w', w'.ownsRow base e size v' (n + m) (xs ++ news) → w.grownBy w' v.ownBlock → K (a.put o.dst v') w') :
  if Region.wanted o (yielded ops a.tmps) = true then Oper.wp P o a w K Q else E := by
 have hw : Region.wanted o (yielded ops a.tmps) = true := by simp [Region.wanted, hgd]
 rw [if_pos hw]
 rcases hp with ⟨rfl, rfl, rfl⟩ | ⟨ad, rfl, hc⟩
 ·have hn : news = [] := List.eq_nil_of_length_eq_zero (by rw [hl]; simp)
  subst hn
  have hrun := run_append_owned_none (P := P) (w := w) base t o.type e i size ht hi v n xs hown
  unfold Oper.wp
  simp [execOp, ho, resolve, invoke, builtin, hs, hx, hrun, Result.andThen]
  exact h v w (by simpa using hown) ⟨rfl, rfl, rfl, Nat.le_refl _, fun _ _ _ => rfl⟩
 ·obtain ⟨v', w', hrun, r1, r2, _⟩ := run_append_own (P := P) w base t o.type e i z size bytes ht hi hz hsize hby hzs hsz v n xs hown ad m c news hl hc h1 h63 hbytes hbase
  unfold Oper.wp
  simp [execOp, ho, resolve, invoke, builtin, hs, hx, hrun, Result.andThen]
  exact h v' w' r1 r2

structure GaveD (w : World) (B b : Nat) (room : Int) (v : Value) (r : Int × List En) (e : Ending) (w' : World) : Prop where
 res : e = .returned (.int .i64 r.1)
 put : PutGave 64 77 10 mc w B b room r.2 v w'
theorem own_below {w w' : World} {base e sz n : Nat} {v : Value} {xs : List Value} (h : w.ownsRow base e sz v n xs) (hb : Below w.heap.size w w') : w'.ownsRow base e sz v n xs := own_block h fun k hk => hb.block k (h.lt k hk).2
theorem gave_new {T e : TypeId} {w w2 : World} {B b : Nat} {room : Int} {l m : List En} {v u : Value} {n : Nat} (h : Bg T e 10 mc w B b room l v) (hw : Below w.heap.size w w2) (hB : B ≤ w.heap.size) (hm : m.length = n)
  (hown : w2.ownsRow w.heap.size e 10 u n (cellsOf mc m)) : PutGave T e 10 mc w B b room m v (w2.setCell ⟨b, 1, none⟩ u) := by
 have hbl := h.lt
 have hb2 : w2.heap[b]? = some (.cells #[.int .i64 room, v] T (0, 0)) := (hw.block b hbl).trans h.blk
 have hu : ∀ k, u.ownBlock = some k → w.heap.size ≤ k := fun k hk => (hown.lt k hk).1
 subst hm
 refine ⟨u, ⟨?_, ?_, ?_, h.big⟩, ?_, ?_⟩
 ·rw [heap_setCell_same w2 b 1 _ _ _ hb2]
  rfl
 ·exact own_base (own_block (w' := w2.setCell ⟨b, 1, none⟩ u) hown fun k hk => heap_setCell_other _ _ _ _ (by have := hu k hk; simp only; omega)) fun k hk => by have := hu k hk; omega
 ·exact fun e => by have := hu b e; omega
 ·refine ⟨hw.os, hw.tape, hw.output, ?_, fun k hk h1 _ => ?_⟩
  ·have := hw.size; simp [World.setCell]; omega
  ·exact (heap_setCell_other _ _ _ _ h1).trans (hw.block k hk)
 ·exact fun k hk => .inr (hu k hk)

structure Bx (w : World) (b : Nat) (d : Wd) (X : World) : Prop where
 lt : b < w.heap.size
 gt : w.heap.size < X.heap.size
 below : Below w.heap.size w X
 mm : ∀ o, X.cell? ⟨w.heap.size, o, none⟩ = (dcells d)[o]?
theorem Bx.new {w : World} {b : Nat} (d : Wd) (h : b < w.heap.size) : Bx w b d (w.alloc (.cells (dcells d) 36)) := ⟨h, by simp, balloc _ _, blk_cell (heap_alloc_new w _)⟩
theorem Bx.step {w X Z : World} {b : Nat} {d : Wd} (h : Bx w b d X) (hb : Below X.heap.size X Z) : Bx w b d Z := ⟨h.lt, Nat.lt_of_lt_of_le h.gt hb.size, bstep h.below hb, fun o => (hb.cell (p := ⟨w.heap.size, o, none⟩) h.gt).trans (h.mm o)⟩

set_option maxHeartbeats 1000000 in
theorem refPut_twice {w : World} {B b : Nat} {room : Int} {l : List En} {v : Value} (h : BgD w B b room l v) (line : Int) (d : Wd) (hl : l.length ≤ 8) {i : Nat} (hp : fnd l line = some i) :
  Calls Tryz.prog 78 #[.pointer (some ⟨b, 0, none⟩), .int .i64 line, .agg (dcells d)] w fun e w' => e = .returned (.int .i64 6) ∧ Below w.heap.size w w' := by
 have hbx := balloc w (.cells (dcells d) 36)
 have HP := refPlace_any (h.below hbx) line (by omega)
 rw [hp] at HP
 have HP := Lib.hid HP
 have HB := Lib.hid hbx
 have hni : (0 : Int) ≤ (i : Int) := by omega
 clear h hp hbx
 go_enter Tryz.func78, Tryz.ntmps78
 go_wp2_with fail
 refine HP.out.mono ?_
 rintro e w1 ⟨rfl, rfl⟩
 simp only [oi]
 go_wp2
 go_ret
 exact ⟨rfl, HB.out⟩
set_option maxHeartbeats 1000000 in
theorem refPut_full {w : World} {B b : Nat} {room : Int} {l : List En} {v : Value} (h : BgD w B b room l v) (line : Int) (d : Wd) (hl : l.length ≤ 8) (hp : fnd l line = none) (hf : (l.length : Int) = room) :
  Calls Tryz.prog 78 #[.pointer (some ⟨b, 0, none⟩), .int .i64 line, .agg (dcells d)] w fun e w' => e = .returned (.int .i64 4) ∧ Below w.heap.size w w' := by
 have hbx := balloc w (.cells (dcells d) 36)
 have HP := refPlace_any (h.below hbx) line (by omega)
 rw [hp] at HP
 have HP := Lib.hid HP
 have hd : decide (room ≤ (l.length : Int)) = true := by simp; omega
 obtain ⟨q, cap, rfl, hq⟩ := h.form
 have c0 := blk_cell (h.below hbx).blk 0
 have c1 := blk_cell (h.below hbx).blk 1
 simp at c0 c1
 have HB := Lib.hid hbx
 clear h hp hf hq hbx
 go_enter Tryz.func78, Tryz.ntmps78
 go_wp2_with fail
 refine HP.out.mono ?_
 rintro e w1 ⟨rfl, rfl⟩
 simp only [oi]
 go_wp2
 go_quiet (fail)
 go_wp2
 go_ret
 exact ⟨rfl, below_drewN HB.out _⟩

set_option maxRecDepth 100000 in
set_option maxHeartbeats 4000000 in
theorem refPut_yes {w : World} {B b : Nat} {room : Int} {l : List En} {v : Value} (h : BgD w B b room l v) (hB : B ≤ w.heap.size) (line : Int) (d : Wd) (hl : (l.length : Int) < room) (h2 : room ≤ 8) (hp : fnd l line = none) :
  Calls Tryz.prog 78 #[.pointer (some ⟨b, 0, none⟩), .int .i64 line, .agg (dcells d)] w fun e w' => e = .returned (.int .i64 0) ∧ PutGave 64 77 10 mc w B b room (l ++ [newE line d]) v w' := by
 obtain ⟨i0, hi0, hz0, hz1, hz2⟩ := info_parts A39
 have hbx := balloc w (.cells (dcells d) 36)
 have L1 := Lib.hid (Bx.new d h.lt)
 have h' := h.below hbx
 have HP := refPlace_any h' line (by omega)
 rw [hp] at HP
 have HP := Lib.hid HP
 have hN8 : l.length ≤ 8 := by omega
 have hd : decide (room ≤ (l.length : Int)) = false := by simp; omega
 obtain ⟨p, cap, rfl, hq⟩ := h.form
 have H2 := Lib.hid h'
 have c0 := blk_cell h'.blk 0
 have c1 := blk_cell h'.blk 1
 simp at c0 c1
 have HBB := Lib.hid hB
 clear h h' hp hl hq hbx hB
 go_enter Tryz.func78, Tryz.ntmps78
 go_wp2_with fail
 refine HP.out.mono ?_
 rintro e w1 ⟨rfl, rfl⟩
 simp only [oi]
 obtain ⟨w2, hw2⟩ : ∃ w2, w2 = w.alloc (.cells (dcells d) 36) := ⟨_, rfl⟩
 rw [← hw2] at L1 H2 c0 c1 ⊢
 clear HP hw2
 have L2 := L1
 clear L1
 go_wp2
 go_quiet (fail)
 go_wp2_with fail
 have hlt2 := L2.out.lt
 have hB2 := L2.out.below.size
 have hrl : b < w2.heap.size := Nat.lt_trans L2.out.lt L2.out.gt
 have HC : Hid (∀ X, Below w2.heap.size w2 X → X.cell? ⟨b, 1, none⟩ = some (.slice p l.length cap)) := Lib.hid (fun X hb => (hb.cell (p := ⟨b, 1, none⟩) hrl).trans c1)
 have HFZ : Hid (∀ X, Below w2.heap.size w2 X → X.frozen? ⟨b, 1, none⟩ = false) := Lib.hid (fun X hb => blk_free (H2.out.below hb).blk _)
 have HLN : Hid ((cellsOf mc l).length = l.length * 10) := Lib.hid (cellsOf_len mc_len l)
 have HPP : Hid (∀ X, Below w2.heap.size w2 X → (p = none ∧ l.length = 0 ∧ cap = 0) ∨ ∃ ad, p = some ad ∧ ∀ q x, (cellsOf mc l)[q]? = some x → X.cell? (ad.add q) = some x) := Lib.hid (fun X hb => by
  have hrow' := (H2.out.below hb).row
  rcases hrow'.2 with ⟨e, h0⟩ | ⟨g, cp, cur, e, _⟩
  ·simp only [Value.slice.injEq] at e
   exact .inl ⟨e.1, h0, e.2.2⟩
  ·simp only [Value.slice.injEq] at e
   obtain ⟨rfl, -, rfl⟩ := e
   exact .inr ⟨_, rfl, fun q x hx => hrow'.cells rfl q x hx⟩)
 have HNE2 : Hid (w.heap.size ≠ b) := Lib.hid (by omega)
 have HT : Hid (∀ X, Below w2.heap.size w2 X → ∀ y, X.ownsRow w2.heap.size 77 10 y (l.length + 1) (cellsOf mc l ++ mc (newE line d)) → PutGave 64 77 10 mc w B b room (l ++ [newE line d]) (.slice p l.length cap) (X.setCell ⟨b, 1, none⟩ y)) := Lib.hid (fun X hb y hy => PutGave.after (gave_new (n := l.length + 1) H2.out hb (Nat.le_trans HBB.out hB2) (by simp) (by rw [cellsOf_append]; simpa [cellsOf] using hy)) L2.out.below)
 obtain ⟨W0, hW⟩ : ∃ X, X = (w2.drewN nq).drew := ⟨_, rfl⟩
 have BB0 : Hid (Below w2.heap.size w2 W0) := Lib.hid (by rw [hW]; exact (below_drewN (Below.refl _ _) _).drew)
 have LB0 := Lib.hid (L2.out.step BB0.out)
 have hS0 := LB0.out.mm
 rw [hW] at hS0
 clear c0 c1 hlt2 hrl
 refine wp_region_noPanic ?_
 refine wp_region_held_drew (S := fun w' => ∀ o, w'.cell? ⟨w.heap.size, o, none⟩ = (dcells d)[o]?) (by kernel_rfl) hS0 (fun hh => ?_)
 rw [← hW] at hh ⊢
 clear hW hS0
 refine tk 14 0 ⟨some 21, _, _, _, _, _⟩ (.pointer (some ⟨b, 0, none⟩)) rfl (by kernel_rfl) (by rfl) hh ?_ ?_
 ·intro w' hw'
  go_simp
 simp only [Act.put, setIfInBounds_toArray, set_cons_zero, set_cons_succ]
 refine tk 13 2 ⟨some 23, _, _, _, _, _⟩ (.pointer (some ⟨b, 0, none⟩)) rfl (by kernel_rfl) (by rfl) hh ?_ ?_
 ·intro w' hw'
  go_simp
 simp only [Act.put, setIfInBounds_toArray, set_cons_zero, set_cons_succ]
 refine tk 12 3 ⟨some 24, _, _, _, _, _⟩ (.pointer (some ⟨b, 0, none⟩)) rfl (by kernel_rfl) (by rfl) hh ?_ ?_
 ·intro w' hw'
  go_simp
 simp only [Act.put, setIfInBounds_toArray, set_cons_zero, set_cons_succ]
 refine tk 11 4 ⟨some 25, _, _, _, _, _⟩ (.pointer (some ⟨b, 1, none⟩)) rfl (by kernel_rfl) (by rfl) hh ?_ ?_
 ·intro w' hw'
  go_simp
 simp only [Act.put, setIfInBounds_toArray, set_cons_zero, set_cons_succ]
 refine tk 10 7 ⟨some 28, _, _, _, _, _⟩ (.int .i64 line) rfl (by kernel_rfl) (by rfl) hh ?_ ?_
 ·intro w' hw'
  go_simp
 simp only [Act.put, setIfInBounds_toArray, set_cons_zero, set_cons_succ]
 refine tk 9 8 ⟨some 29, _, _, _, _, _⟩ (.agg (dcells d)) rfl (by kernel_rfl) (by rfl) hh ?_ ?_
 ·intro w' hw'
  go_simp
 simp only [Act.put, setIfInBounds_toArray, set_cons_zero, set_cons_succ]
 refine tk 8 9 ⟨some 30, _, _, _, _, _⟩ (.agg (mcells (newE line d))) rfl (by kernel_rfl) (by rfl) hh ?_ ?_
 ·intro w' hw'
  go_simp
  exact ⟨rfl, rfl, rfl, rfl, rfl, rfl, rfl, rfl, rfl, rfl⟩
 simp only [Act.put, setIfInBounds_toArray, set_cons_zero, set_cons_succ]
 refine wpAnyH_ready (fuel := 7) (rs := [1, 5, 10]) (by kernel_rfl) (by simp) ?_
 refine AllReadyH.cons (o := ⟨some 22, _, _, _, _, _⟩) rfl (fun K hK => ?_) (AllReadyH.cons (o := ⟨some 26, _, _, _, _, _⟩) rfl (fun K hK => ?_) (AllReadyH.cons (o := ⟨some 31, _, _, _, _, _⟩) rfl (fun K hK => ?_) AllReadyH.nil))
 ·skip
  go_simp
  obtain ⟨W1, hW⟩ : ∃ X, X = W0.alloc (.cells #[] 77) := ⟨_, rfl⟩
  rw [← hW]
  have hbb : Below W0.heap.size W0 W1 := by rw [hW]; exact (Below.refl _ _).alloc (Nat.le_refl _) _
  have BB1 := Lib.hid (bstep BB0.out hbb)
  have LB1 := Lib.hid (L2.out.step BB1.out)
  have HE1 := Lib.hid (show W1.ownsRow w2.heap.size 77 10 (.slice (some ⟨W0.heap.size, 0, none⟩) 0 0) 0 [] by rw [hW]; exact World.ownsRow_made W0 #[] 0 BB0.out.size (Nat.zero_le _) rfl)
  show K _ _
  refine hK.out _ _ LB1.out.mm (fun hh7 => ?_)
  clear hK K hh hbb hW
  refine wpAnyH_ready (fuel := 6) (rs := [5, 10]) (by kernel_rfl) (by simp) ?_
  refine AllReadyH.cons (o := ⟨some 26, _, _, _, _, _⟩) rfl (fun K hK => ?_) (AllReadyH.cons (o := ⟨some 31, _, _, _, _, _⟩) rfl (fun K hK => ?_) AllReadyH.nil)
  ·skip
   have hc1 := HC.out _ BB1.out
   go_simp
   show K _ _
   refine hK.out _ _ LB1.out.mm (fun hh6 => ?_)
   clear hK K hh7 hc1
   refine wpAnyH_ready (fuel := 5) (rs := [6, 10]) (by kernel_rfl) (by simp) ?_
   refine AllReadyH.cons (o := ⟨some 27, _, _, _, _, _⟩) rfl (fun K hK => ?_) (AllReadyH.cons (o := ⟨some 31, _, _, _, _, _⟩) rfl (fun K hK => ?_) AllReadyH.nil)
   ·skip
    refine step_append_sn rfl (.tmp 22) (.tmp 26) 49 rfl w2.heap.size 77 i0 (.agg (mcells m0)) 10 80 Tryz.underlying49 hi0 hz0 hz1 hz2 rfl (by decide) _ 0 [] rfl HE1.out p l.length cap (cellsOf mc l) rfl HLN.out (HPP.out _ BB1.out) (mcs_one l) (by unfold maxLen; omega) (by omega) BB1.out.size ?_
    intro v1 W2 hown1 hgr1
    have BB2 := Lib.hid (BB1.out.grown hgr1 BB1.out.size (fun k hk => (HE1.out.lt k hk).1))
    have LB2 := Lib.hid (L2.out.step BB2.out)
    have HO2 := Lib.hid (show W2.ownsRow w2.heap.size 77 10 v1 l.length (cellsOf mc l) by simpa using hown1)
    refine hK.out _ _ LB2.out.mm (fun hh5 => ?_)
    clear hK K hh6 hown1 hgr1
    simp only [Act.put, setIfInBounds_toArray, set_cons_zero, set_cons_succ]
    refine wpAnyH_ready (fuel := 4) (rs := [10]) (by kernel_rfl) (by simp) ?_
    refine AllReadyH.cons (o := ⟨some 31, _, _, _, _, _⟩) rfl (fun K hK => ?_) AllReadyH.nil
    go_simp
    obtain ⟨W3, hW⟩ : ∃ X, X = W2.alloc (.cells (mcells (newE line d)) 77) := ⟨_, rfl⟩
    rw [← hW]
    have hbb : Below W2.heap.size W2 W3 := by rw [hW]; exact (Below.refl _ _).alloc (Nat.le_refl _) _
    have BB3 := Lib.hid (bstep BB2.out hbb)
    have LB3 := Lib.hid (L2.out.step BB3.out)
    have HM3 := Lib.hid (show W3.heap[W2.heap.size]? = some (.cells (mcells (newE line d)) 77 (0, 0)) by rw [hW]; exact heap_alloc_new W2 _)
    have HO3 := Lib.hid (own_below HO2.out hbb)
    show K _ _
    refine hK.out _ _ LB3.out.mm (fun hh4 => ?_)
    clear hK K hh5 hbb hW
    refine wpAnyH_ready (fuel := 3) (rs := [11]) (by kernel_rfl) (by simp) ?_
    refine AllReadyH.cons (o := ⟨some 32, _, _, _, _, _⟩) rfl (fun K hK => ?_) AllReadyH.nil
    refine step_append_lies _ rfl (.tmp 27) (.tmp 31) 49 rfl w2.heap.size 77 i0 (.agg (mcells m0)) 10 80 Tryz.underlying49 hi0 hz0 hz1 hz2 rfl (by decide) v1 l.length (cellsOf mc l) rfl HO3.out ⟨W2.heap.size, 0, none⟩ 1 1 (mc (newE line d)) rfl rfl (World.news_of_block (cs := mcells (newE line d)) (t := 77) (fr := (0, 0)) HM3.out) (mc_one _) (by omega) (by unfold maxLen; omega) (by omega) BB3.out.size _ rfl ?_
    intro gg cap2 W4 hown2 hgr2 hat hlt2
    have BB4 := Lib.hid (BB3.out.grown hgr2 BB3.out.size (fun k hk => (HO3.out.lt k hk).1))
    have LB4 := Lib.hid (L2.out.step BB4.out)
    refine hK.out _ _ LB4.out.mm (fun hh2 => ?_)
    clear hK K hh4 hgr2 hat hlt2
    simp only [Act.put, setIfInBounds_toArray, set_cons_zero, set_cons_succ]
    refine tk 2 12 ⟨some 33, _, _, _, _, _⟩ (.pointer (some ⟨b, 0, none⟩)) rfl (by kernel_rfl) (by rfl) hh2 ?_ ?_
    ·intro w' hw'
     go_simp
    simp only [Act.put, setIfInBounds_toArray, set_cons_zero, set_cons_succ]
    refine tk 1 13 ⟨some 34, _, _, _, _, _⟩ (.pointer (some ⟨b, 1, none⟩)) rfl (by kernel_rfl) (by rfl) hh2 ?_ ?_
    ·intro w' hw'
     go_simp
    simp only [Act.put, setIfInBounds_toArray, set_cons_zero, set_cons_succ]
    refine wpAnyH_ready (fuel := 0) (rs := [14]) (by kernel_rfl) (by simp) ?_
    refine AllReadyH.cons (o := ⟨none, _, _, _, _, _⟩) rfl (fun K hK => ?_) AllReadyH.nil
    have hc1 := HC.out _ BB4.out
    have hf1 := HFZ.out _ BB4.out
    go_simp
    show K _ _
    refine hK.out _ _ (fun o => (World.cell?_of_block (heap_setCell_other _ _ _ _ HNE2.out)).trans (LB4.out.mm o)) (fun _ => ?_)
    clear hK K hh2 hc1 hf1
    refine wpAnyH_done (by kernel_rfl) ?_ _
    refine NoPanic.normal ?_
    have HG := Lib.hid (HT.out _ BB4.out _ hown2)
    clear hown2
    go_wp2
    go_ret
    exact ⟨rfl, HG.out⟩
   ·skip
    go_simp
    obtain ⟨W2, hW⟩ : ∃ X, X = W1.alloc (.cells (mcells (newE line d)) 77) := ⟨_, rfl⟩
    rw [← hW]
    have hbb : Below W1.heap.size W1 W2 := by rw [hW]; exact (Below.refl _ _).alloc (Nat.le_refl _) _
    have BB2 := Lib.hid (bstep BB1.out hbb)
    have LB2 := Lib.hid (L2.out.step BB2.out)
    have HM2 := Lib.hid (show W2.heap[W1.heap.size]? = some (.cells (mcells (newE line d)) 77 (0, 0)) by rw [hW]; exact heap_alloc_new W1 _)
    have HE2 := Lib.hid (own_below HE1.out hbb)
    have hne : W1.heap.size ≠ W0.heap.size := by have := (HE1.out.lt W0.heap.size rfl).2; omega
    show K _ _
    refine hK.out _ _ LB2.out.mm (fun hh5 => ?_)
    clear hK K hh6 hbb hW
    refine wpAnyH_ready (fuel := 4) (rs := [6]) (by kernel_rfl) (by simp) ?_
    refine AllReadyH.cons (o := ⟨some 27, _, _, _, _, _⟩) rfl (fun K hK => ?_) AllReadyH.nil
    refine step_append_sn rfl (.tmp 22) (.tmp 26) 49 rfl w2.heap.size 77 i0 (.agg (mcells m0)) 10 80 Tryz.underlying49 hi0 hz0 hz1 hz2 rfl (by decide) _ 0 [] rfl HE2.out p l.length cap (cellsOf mc l) rfl HLN.out (HPP.out _ BB2.out) (mcs_one l) (by unfold maxLen; omega) (by omega) BB2.out.size ?_
    intro v1 W3 hown1 hgr1
    have BB3 := Lib.hid (BB2.out.grown hgr1 BB2.out.size (fun k hk => (HE2.out.lt k hk).1))
    have LB3 := Lib.hid (L2.out.step BB3.out)
    have HO3 := Lib.hid (show W3.ownsRow w2.heap.size 77 10 v1 l.length (cellsOf mc l) by simpa using hown1)
    have HM3 := Lib.hid ((hgr1.block W1.heap.size (lt_of_block HM2.out) (fun e => hne (Option.some.inj e))).trans HM2.out)
    refine hK.out _ _ LB3.out.mm (fun hh4 => ?_)
    clear hK K hh5 hown1 hgr1
    simp only [Act.put, setIfInBounds_toArray, set_cons_zero, set_cons_succ]
    refine wpAnyH_ready (fuel := 3) (rs := [11]) (by kernel_rfl) (by simp) ?_
    refine AllReadyH.cons (o := ⟨some 32, _, _, _, _, _⟩) rfl (fun K hK => ?_) AllReadyH.nil
    refine step_append_lies _ rfl (.tmp 27) (.tmp 31) 49 rfl w2.heap.size 77 i0 (.agg (mcells m0)) 10 80 Tryz.underlying49 hi0 hz0 hz1 hz2 rfl (by decide) v1 l.length (cellsOf mc l) rfl HO3.out ⟨W1.heap.size, 0, none⟩ 1 1 (mc (newE line d)) rfl rfl (World.news_of_block (cs := mcells (newE line d)) (t := 77) (fr := (0, 0)) HM3.out) (mc_one _) (by omega) (by unfold maxLen; omega) (by omega) BB3.out.size _ rfl ?_
    intro gg cap2 W4 hown2 hgr2 hat hlt2
    have BB4 := Lib.hid (BB3.out.grown hgr2 BB3.out.size (fun k hk => (HO3.out.lt k hk).1))
    have LB4 := Lib.hid (L2.out.step BB4.out)
    refine hK.out _ _ LB4.out.mm (fun hh2 => ?_)
    clear hK K hh4 hgr2 hat hlt2
    simp only [Act.put, setIfInBounds_toArray, set_cons_zero, set_cons_succ]
    refine tk 2 12 ⟨some 33, _, _, _, _, _⟩ (.pointer (some ⟨b, 0, none⟩)) rfl (by kernel_rfl) (by rfl) hh2 ?_ ?_
    ·intro w' hw'
     go_simp
    simp only [Act.put, setIfInBounds_toArray, set_cons_zero, set_cons_succ]
    refine tk 1 13 ⟨some 34, _, _, _, _, _⟩ (.pointer (some ⟨b, 1, none⟩)) rfl (by kernel_rfl) (by rfl) hh2 ?_ ?_
    ·intro w' hw'
     go_simp
    simp only [Act.put, setIfInBounds_toArray, set_cons_zero, set_cons_succ]
    refine wpAnyH_ready (fuel := 0) (rs := [14]) (by kernel_rfl) (by simp) ?_
    refine AllReadyH.cons (o := ⟨none, _, _, _, _, _⟩) rfl (fun K hK => ?_) AllReadyH.nil
    have hc1 := HC.out _ BB4.out
    have hf1 := HFZ.out _ BB4.out
    go_simp
    show K _ _
    refine hK.out _ _ (fun o => (World.cell?_of_block (heap_setCell_other _ _ _ _ HNE2.out)).trans (LB4.out.mm o)) (fun _ => ?_)
    clear hK K hh2 hc1 hf1
    refine wpAnyH_done (by kernel_rfl) ?_ _
    refine NoPanic.normal ?_
    have HG := Lib.hid (HT.out _ BB4.out _ hown2)
    clear hown2
    go_wp2
    go_ret
    exact ⟨rfl, HG.out⟩
  ·skip
   go_simp
   obtain ⟨W2, hW⟩ : ∃ X, X = W1.alloc (.cells (mcells (newE line d)) 77) := ⟨_, rfl⟩
   rw [← hW]
   have hbb : Below W1.heap.size W1 W2 := by rw [hW]; exact (Below.refl _ _).alloc (Nat.le_refl _) _
   have BB2 := Lib.hid (bstep BB1.out hbb)
   have LB2 := Lib.hid (L2.out.step BB2.out)
   have HM2 := Lib.hid (show W2.heap[W1.heap.size]? = some (.cells (mcells (newE line d)) 77 (0, 0)) by rw [hW]; exact heap_alloc_new W1 _)
   have HE2 := Lib.hid (own_below HE1.out hbb)
   have hne : W1.heap.size ≠ W0.heap.size := by have := (HE1.out.lt W0.heap.size rfl).2; omega
   show K _ _
   refine hK.out _ _ LB2.out.mm (fun hh6 => ?_)
   clear hK K hh7 hbb hW
   refine wpAnyH_ready (fuel := 5) (rs := [5]) (by kernel_rfl) (by simp) ?_
   refine AllReadyH.cons (o := ⟨some 26, _, _, _, _, _⟩) rfl (fun K hK => ?_) AllReadyH.nil
   have hc1 := HC.out _ BB2.out
   go_simp
   show K _ _
   refine hK.out _ _ LB2.out.mm (fun hh5 => ?_)
   clear hK K hh6 hc1
   refine wpAnyH_ready (fuel := 4) (rs := [6]) (by kernel_rfl) (by simp) ?_
   refine AllReadyH.cons (o := ⟨some 27, _, _, _, _, _⟩) rfl (fun K hK => ?_) AllReadyH.nil
   refine step_append_sn rfl (.tmp 22) (.tmp 26) 49 rfl w2.heap.size 77 i0 (.agg (mcells m0)) 10 80 Tryz.underlying49 hi0 hz0 hz1 hz2 rfl (by decide) _ 0 [] rfl HE2.out p l.length cap (cellsOf mc l) rfl HLN.out (HPP.out _ BB2.out) (mcs_one l) (by unfold maxLen; omega) (by omega) BB2.out.size ?_
   intro v1 W3 hown1 hgr1
   have BB3 := Lib.hid (BB2.out.grown hgr1 BB2.out.size (fun k hk => (HE2.out.lt k hk).1))
   have LB3 := Lib.hid (L2.out.step BB3.out)
   have HO3 := Lib.hid (show W3.ownsRow w2.heap.size 77 10 v1 l.length (cellsOf mc l) by simpa using hown1)
   have HM3 := Lib.hid ((hgr1.block W1.heap.size (lt_of_block HM2.out) (fun e => hne (Option.some.inj e))).trans HM2.out)
   refine hK.out _ _ LB3.out.mm (fun hh4 => ?_)
   clear hK K hh5 hown1 hgr1
   simp only [Act.put, setIfInBounds_toArray, set_cons_zero, set_cons_succ]
   refine wpAnyH_ready (fuel := 3) (rs := [11]) (by kernel_rfl) (by simp) ?_
   refine AllReadyH.cons (o := ⟨some 32, _, _, _, _, _⟩) rfl (fun K hK => ?_) AllReadyH.nil
   refine step_append_lies _ rfl (.tmp 27) (.tmp 31) 49 rfl w2.heap.size 77 i0 (.agg (mcells m0)) 10 80 Tryz.underlying49 hi0 hz0 hz1 hz2 rfl (by decide) v1 l.length (cellsOf mc l) rfl HO3.out ⟨W1.heap.size, 0, none⟩ 1 1 (mc (newE line d)) rfl rfl (World.news_of_block (cs := mcells (newE line d)) (t := 77) (fr := (0, 0)) HM3.out) (mc_one _) (by omega) (by unfold maxLen; omega) (by omega) BB3.out.size _ rfl ?_
   intro gg cap2 W4 hown2 hgr2 hat hlt2
   have BB4 := Lib.hid (BB3.out.grown hgr2 BB3.out.size (fun k hk => (HO3.out.lt k hk).1))
   have LB4 := Lib.hid (L2.out.step BB4.out)
   refine hK.out _ _ LB4.out.mm (fun hh2 => ?_)
   clear hK K hh4 hgr2 hat hlt2
   simp only [Act.put, setIfInBounds_toArray, set_cons_zero, set_cons_succ]
   refine tk 2 12 ⟨some 33, _, _, _, _, _⟩ (.pointer (some ⟨b, 0, none⟩)) rfl (by kernel_rfl) (by rfl) hh2 ?_ ?_
   ·intro w' hw'
    go_simp
   simp only [Act.put, setIfInBounds_toArray, set_cons_zero, set_cons_succ]
   refine tk 1 13 ⟨some 34, _, _, _, _, _⟩ (.pointer (some ⟨b, 1, none⟩)) rfl (by kernel_rfl) (by rfl) hh2 ?_ ?_
   ·intro w' hw'
    go_simp
   simp only [Act.put, setIfInBounds_toArray, set_cons_zero, set_cons_succ]
   refine wpAnyH_ready (fuel := 0) (rs := [14]) (by kernel_rfl) (by simp) ?_
   refine AllReadyH.cons (o := ⟨none, _, _, _, _, _⟩) rfl (fun K hK => ?_) AllReadyH.nil
   have hc1 := HC.out _ BB4.out
   have hf1 := HFZ.out _ BB4.out
   go_simp
   show K _ _
   refine hK.out _ _ (fun o => (World.cell?_of_block (heap_setCell_other _ _ _ _ HNE2.out)).trans (LB4.out.mm o)) (fun _ => ?_)
   clear hK K hh2 hc1 hf1
   refine wpAnyH_done (by kernel_rfl) ?_ _
   refine NoPanic.normal ?_
   have HG := Lib.hid (HT.out _ BB4.out _ hown2)
   clear hown2
   go_wp2
   go_ret
   exact ⟨rfl, HG.out⟩
 ·skip
  have hc1 := HC.out _ BB0.out
  go_simp
  show K _ _
  refine hK.out _ _ LB0.out.mm (fun hh7 => ?_)
  clear hK K hh hc1
  refine wpAnyH_ready (fuel := 6) (rs := [1, 10]) (by kernel_rfl) (by simp) ?_
  refine AllReadyH.cons (o := ⟨some 22, _, _, _, _, _⟩) rfl (fun K hK => ?_) (AllReadyH.cons (o := ⟨some 31, _, _, _, _, _⟩) rfl (fun K hK => ?_) AllReadyH.nil)
  ·skip
   go_simp
   obtain ⟨W1, hW⟩ : ∃ X, X = W0.alloc (.cells #[] 77) := ⟨_, rfl⟩
   rw [← hW]
   have hbb : Below W0.heap.size W0 W1 := by rw [hW]; exact (Below.refl _ _).alloc (Nat.le_refl _) _
   have BB1 := Lib.hid (bstep BB0.out hbb)
   have LB1 := Lib.hid (L2.out.step BB1.out)
   have HE1 := Lib.hid (show W1.ownsRow w2.heap.size 77 10 (.slice (some ⟨W0.heap.size, 0, none⟩) 0 0) 0 [] by rw [hW]; exact World.ownsRow_made W0 #[] 0 BB0.out.size (Nat.zero_le _) rfl)
   show K _ _
   refine hK.out _ _ LB1.out.mm (fun hh6 => ?_)
   clear hK K hh7 hbb hW
   refine wpAnyH_ready (fuel := 5) (rs := [6, 10]) (by kernel_rfl) (by simp) ?_
   refine AllReadyH.cons (o := ⟨some 27, _, _, _, _, _⟩) rfl (fun K hK => ?_) (AllReadyH.cons (o := ⟨some 31, _, _, _, _, _⟩) rfl (fun K hK => ?_) AllReadyH.nil)
   ·skip
    refine step_append_sn rfl (.tmp 22) (.tmp 26) 49 rfl w2.heap.size 77 i0 (.agg (mcells m0)) 10 80 Tryz.underlying49 hi0 hz0 hz1 hz2 rfl (by decide) _ 0 [] rfl HE1.out p l.length cap (cellsOf mc l) rfl HLN.out (HPP.out _ BB1.out) (mcs_one l) (by unfold maxLen; omega) (by omega) BB1.out.size ?_
    intro v1 W2 hown1 hgr1
    have BB2 := Lib.hid (BB1.out.grown hgr1 BB1.out.size (fun k hk => (HE1.out.lt k hk).1))
    have LB2 := Lib.hid (L2.out.step BB2.out)
    have HO2 := Lib.hid (show W2.ownsRow w2.heap.size 77 10 v1 l.length (cellsOf mc l) by simpa using hown1)
    refine hK.out _ _ LB2.out.mm (fun hh5 => ?_)
    clear hK K hh6 hown1 hgr1
    simp only [Act.put, setIfInBounds_toArray, set_cons_zero, set_cons_succ]
    refine wpAnyH_ready (fuel := 4) (rs := [10]) (by kernel_rfl) (by simp) ?_
    refine AllReadyH.cons (o := ⟨some 31, _, _, _, _, _⟩) rfl (fun K hK => ?_) AllReadyH.nil
    go_simp
    obtain ⟨W3, hW⟩ : ∃ X, X = W2.alloc (.cells (mcells (newE line d)) 77) := ⟨_, rfl⟩
    rw [← hW]
    have hbb : Below W2.heap.size W2 W3 := by rw [hW]; exact (Below.refl _ _).alloc (Nat.le_refl _) _
    have BB3 := Lib.hid (bstep BB2.out hbb)
    have LB3 := Lib.hid (L2.out.step BB3.out)
    have HM3 := Lib.hid (show W3.heap[W2.heap.size]? = some (.cells (mcells (newE line d)) 77 (0, 0)) by rw [hW]; exact heap_alloc_new W2 _)
    have HO3 := Lib.hid (own_below HO2.out hbb)
    show K _ _
    refine hK.out _ _ LB3.out.mm (fun hh4 => ?_)
    clear hK K hh5 hbb hW
    refine wpAnyH_ready (fuel := 3) (rs := [11]) (by kernel_rfl) (by simp) ?_
    refine AllReadyH.cons (o := ⟨some 32, _, _, _, _, _⟩) rfl (fun K hK => ?_) AllReadyH.nil
    refine step_append_lies _ rfl (.tmp 27) (.tmp 31) 49 rfl w2.heap.size 77 i0 (.agg (mcells m0)) 10 80 Tryz.underlying49 hi0 hz0 hz1 hz2 rfl (by decide) v1 l.length (cellsOf mc l) rfl HO3.out ⟨W2.heap.size, 0, none⟩ 1 1 (mc (newE line d)) rfl rfl (World.news_of_block (cs := mcells (newE line d)) (t := 77) (fr := (0, 0)) HM3.out) (mc_one _) (by omega) (by unfold maxLen; omega) (by omega) BB3.out.size _ rfl ?_
    intro gg cap2 W4 hown2 hgr2 hat hlt2
    have BB4 := Lib.hid (BB3.out.grown hgr2 BB3.out.size (fun k hk => (HO3.out.lt k hk).1))
    have LB4 := Lib.hid (L2.out.step BB4.out)
    refine hK.out _ _ LB4.out.mm (fun hh2 => ?_)
    clear hK K hh4 hgr2 hat hlt2
    simp only [Act.put, setIfInBounds_toArray, set_cons_zero, set_cons_succ]
    refine tk 2 12 ⟨some 33, _, _, _, _, _⟩ (.pointer (some ⟨b, 0, none⟩)) rfl (by kernel_rfl) (by rfl) hh2 ?_ ?_
    ·intro w' hw'
     go_simp
    simp only [Act.put, setIfInBounds_toArray, set_cons_zero, set_cons_succ]
    refine tk 1 13 ⟨some 34, _, _, _, _, _⟩ (.pointer (some ⟨b, 1, none⟩)) rfl (by kernel_rfl) (by rfl) hh2 ?_ ?_
    ·intro w' hw'
     go_simp
    simp only [Act.put, setIfInBounds_toArray, set_cons_zero, set_cons_succ]
    refine wpAnyH_ready (fuel := 0) (rs := [14]) (by kernel_rfl) (by simp) ?_
    refine AllReadyH.cons (o := ⟨none, _, _, _, _, _⟩) rfl (fun K hK => ?_) AllReadyH.nil
    have hc1 := HC.out _ BB4.out
    have hf1 := HFZ.out _ BB4.out
    go_simp
    show K _ _
    refine hK.out _ _ (fun o => (World.cell?_of_block (heap_setCell_other _ _ _ _ HNE2.out)).trans (LB4.out.mm o)) (fun _ => ?_)
    clear hK K hh2 hc1 hf1
    refine wpAnyH_done (by kernel_rfl) ?_ _
    refine NoPanic.normal ?_
    have HG := Lib.hid (HT.out _ BB4.out _ hown2)
    clear hown2
    go_wp2
    go_ret
    exact ⟨rfl, HG.out⟩
   ·skip
    go_simp
    obtain ⟨W2, hW⟩ : ∃ X, X = W1.alloc (.cells (mcells (newE line d)) 77) := ⟨_, rfl⟩
    rw [← hW]
    have hbb : Below W1.heap.size W1 W2 := by rw [hW]; exact (Below.refl _ _).alloc (Nat.le_refl _) _
    have BB2 := Lib.hid (bstep BB1.out hbb)
    have LB2 := Lib.hid (L2.out.step BB2.out)
    have HM2 := Lib.hid (show W2.heap[W1.heap.size]? = some (.cells (mcells (newE line d)) 77 (0, 0)) by rw [hW]; exact heap_alloc_new W1 _)
    have HE2 := Lib.hid (own_below HE1.out hbb)
    have hne : W1.heap.size ≠ W0.heap.size := by have := (HE1.out.lt W0.heap.size rfl).2; omega
    show K _ _
    refine hK.out _ _ LB2.out.mm (fun hh5 => ?_)
    clear hK K hh6 hbb hW
    refine wpAnyH_ready (fuel := 4) (rs := [6]) (by kernel_rfl) (by simp) ?_
    refine AllReadyH.cons (o := ⟨some 27, _, _, _, _, _⟩) rfl (fun K hK => ?_) AllReadyH.nil
    refine step_append_sn rfl (.tmp 22) (.tmp 26) 49 rfl w2.heap.size 77 i0 (.agg (mcells m0)) 10 80 Tryz.underlying49 hi0 hz0 hz1 hz2 rfl (by decide) _ 0 [] rfl HE2.out p l.length cap (cellsOf mc l) rfl HLN.out (HPP.out _ BB2.out) (mcs_one l) (by unfold maxLen; omega) (by omega) BB2.out.size ?_
    intro v1 W3 hown1 hgr1
    have BB3 := Lib.hid (BB2.out.grown hgr1 BB2.out.size (fun k hk => (HE2.out.lt k hk).1))
    have LB3 := Lib.hid (L2.out.step BB3.out)
    have HO3 := Lib.hid (show W3.ownsRow w2.heap.size 77 10 v1 l.length (cellsOf mc l) by simpa using hown1)
    have HM3 := Lib.hid ((hgr1.block W1.heap.size (lt_of_block HM2.out) (fun e => hne (Option.some.inj e))).trans HM2.out)
    refine hK.out _ _ LB3.out.mm (fun hh4 => ?_)
    clear hK K hh5 hown1 hgr1
    simp only [Act.put, setIfInBounds_toArray, set_cons_zero, set_cons_succ]
    refine wpAnyH_ready (fuel := 3) (rs := [11]) (by kernel_rfl) (by simp) ?_
    refine AllReadyH.cons (o := ⟨some 32, _, _, _, _, _⟩) rfl (fun K hK => ?_) AllReadyH.nil
    refine step_append_lies _ rfl (.tmp 27) (.tmp 31) 49 rfl w2.heap.size 77 i0 (.agg (mcells m0)) 10 80 Tryz.underlying49 hi0 hz0 hz1 hz2 rfl (by decide) v1 l.length (cellsOf mc l) rfl HO3.out ⟨W1.heap.size, 0, none⟩ 1 1 (mc (newE line d)) rfl rfl (World.news_of_block (cs := mcells (newE line d)) (t := 77) (fr := (0, 0)) HM3.out) (mc_one _) (by omega) (by unfold maxLen; omega) (by omega) BB3.out.size _ rfl ?_
    intro gg cap2 W4 hown2 hgr2 hat hlt2
    have BB4 := Lib.hid (BB3.out.grown hgr2 BB3.out.size (fun k hk => (HO3.out.lt k hk).1))
    have LB4 := Lib.hid (L2.out.step BB4.out)
    refine hK.out _ _ LB4.out.mm (fun hh2 => ?_)
    clear hK K hh4 hgr2 hat hlt2
    simp only [Act.put, setIfInBounds_toArray, set_cons_zero, set_cons_succ]
    refine tk 2 12 ⟨some 33, _, _, _, _, _⟩ (.pointer (some ⟨b, 0, none⟩)) rfl (by kernel_rfl) (by rfl) hh2 ?_ ?_
    ·intro w' hw'
     go_simp
    simp only [Act.put, setIfInBounds_toArray, set_cons_zero, set_cons_succ]
    refine tk 1 13 ⟨some 34, _, _, _, _, _⟩ (.pointer (some ⟨b, 1, none⟩)) rfl (by kernel_rfl) (by rfl) hh2 ?_ ?_
    ·intro w' hw'
     go_simp
    simp only [Act.put, setIfInBounds_toArray, set_cons_zero, set_cons_succ]
    refine wpAnyH_ready (fuel := 0) (rs := [14]) (by kernel_rfl) (by simp) ?_
    refine AllReadyH.cons (o := ⟨none, _, _, _, _, _⟩) rfl (fun K hK => ?_) AllReadyH.nil
    have hc1 := HC.out _ BB4.out
    have hf1 := HFZ.out _ BB4.out
    go_simp
    show K _ _
    refine hK.out _ _ (fun o => (World.cell?_of_block (heap_setCell_other _ _ _ _ HNE2.out)).trans (LB4.out.mm o)) (fun _ => ?_)
    clear hK K hh2 hc1 hf1
    refine wpAnyH_done (by kernel_rfl) ?_ _
    refine NoPanic.normal ?_
    have HG := Lib.hid (HT.out _ BB4.out _ hown2)
    clear hown2
    go_wp2
    go_ret
    exact ⟨rfl, HG.out⟩
  ·skip
   go_simp
   obtain ⟨W1, hW⟩ : ∃ X, X = W0.alloc (.cells (mcells (newE line d)) 77) := ⟨_, rfl⟩
   rw [← hW]
   have hbb : Below W0.heap.size W0 W1 := by rw [hW]; exact (Below.refl _ _).alloc (Nat.le_refl _) _
   have BB1 := Lib.hid (bstep BB0.out hbb)
   have LB1 := Lib.hid (L2.out.step BB1.out)
   have HM1 := Lib.hid (show W1.heap[W0.heap.size]? = some (.cells (mcells (newE line d)) 77 (0, 0)) by rw [hW]; exact heap_alloc_new W0 _)
   show K _ _
   refine hK.out _ _ LB1.out.mm (fun hh6 => ?_)
   clear hK K hh7 hbb hW
   refine wpAnyH_ready (fuel := 5) (rs := [1]) (by kernel_rfl) (by simp) ?_
   refine AllReadyH.cons (o := ⟨some 22, _, _, _, _, _⟩) rfl (fun K hK => ?_) AllReadyH.nil
   go_simp
   obtain ⟨W2, hW⟩ : ∃ X, X = W1.alloc (.cells #[] 77) := ⟨_, rfl⟩
   rw [← hW]
   have hbb : Below W1.heap.size W1 W2 := by rw [hW]; exact (Below.refl _ _).alloc (Nat.le_refl _) _
   have BB2 := Lib.hid (bstep BB1.out hbb)
   have LB2 := Lib.hid (L2.out.step BB2.out)
   have HE2 := Lib.hid (show W2.ownsRow w2.heap.size 77 10 (.slice (some ⟨W1.heap.size, 0, none⟩) 0 0) 0 [] by rw [hW]; exact World.ownsRow_made W1 #[] 0 BB1.out.size (Nat.zero_le _) rfl)
   have HM2 := Lib.hid ((hbb.block _ (lt_of_block HM1.out)).trans HM1.out)
   have hne : W0.heap.size ≠ W1.heap.size := by have := lt_of_block HM1.out; omega
   show K _ _
   refine hK.out _ _ LB2.out.mm (fun hh5 => ?_)
   clear hK K hh6 hbb hW
   refine wpAnyH_ready (fuel := 4) (rs := [6]) (by kernel_rfl) (by simp) ?_
   refine AllReadyH.cons (o := ⟨some 27, _, _, _, _, _⟩) rfl (fun K hK => ?_) AllReadyH.nil
   refine step_append_sn rfl (.tmp 22) (.tmp 26) 49 rfl w2.heap.size 77 i0 (.agg (mcells m0)) 10 80 Tryz.underlying49 hi0 hz0 hz1 hz2 rfl (by decide) _ 0 [] rfl HE2.out p l.length cap (cellsOf mc l) rfl HLN.out (HPP.out _ BB2.out) (mcs_one l) (by unfold maxLen; omega) (by omega) BB2.out.size ?_
   intro v1 W3 hown1 hgr1
   have BB3 := Lib.hid (BB2.out.grown hgr1 BB2.out.size (fun k hk => (HE2.out.lt k hk).1))
   have LB3 := Lib.hid (L2.out.step BB3.out)
   have HO3 := Lib.hid (show W3.ownsRow w2.heap.size 77 10 v1 l.length (cellsOf mc l) by simpa using hown1)
   have HM3 := Lib.hid ((hgr1.block W0.heap.size (lt_of_block HM2.out) (fun e => hne (Option.some.inj e))).trans HM2.out)
   refine hK.out _ _ LB3.out.mm (fun hh4 => ?_)
   clear hK K hh5 hown1 hgr1
   simp only [Act.put, setIfInBounds_toArray, set_cons_zero, set_cons_succ]
   refine wpAnyH_ready (fuel := 3) (rs := [11]) (by kernel_rfl) (by simp) ?_
   refine AllReadyH.cons (o := ⟨some 32, _, _, _, _, _⟩) rfl (fun K hK => ?_) AllReadyH.nil
   refine step_append_lies _ rfl (.tmp 27) (.tmp 31) 49 rfl w2.heap.size 77 i0 (.agg (mcells m0)) 10 80 Tryz.underlying49 hi0 hz0 hz1 hz2 rfl (by decide) v1 l.length (cellsOf mc l) rfl HO3.out ⟨W0.heap.size, 0, none⟩ 1 1 (mc (newE line d)) rfl rfl (World.news_of_block (cs := mcells (newE line d)) (t := 77) (fr := (0, 0)) HM3.out) (mc_one _) (by omega) (by unfold maxLen; omega) (by omega) BB3.out.size _ rfl ?_
   intro gg cap2 W4 hown2 hgr2 hat hlt2
   have BB4 := Lib.hid (BB3.out.grown hgr2 BB3.out.size (fun k hk => (HO3.out.lt k hk).1))
   have LB4 := Lib.hid (L2.out.step BB4.out)
   refine hK.out _ _ LB4.out.mm (fun hh2 => ?_)
   clear hK K hh4 hgr2 hat hlt2
   simp only [Act.put, setIfInBounds_toArray, set_cons_zero, set_cons_succ]
   refine tk 2 12 ⟨some 33, _, _, _, _, _⟩ (.pointer (some ⟨b, 0, none⟩)) rfl (by kernel_rfl) (by rfl) hh2 ?_ ?_
   ·intro w' hw'
    go_simp
   simp only [Act.put, setIfInBounds_toArray, set_cons_zero, set_cons_succ]
   refine tk 1 13 ⟨some 34, _, _, _, _, _⟩ (.pointer (some ⟨b, 1, none⟩)) rfl (by kernel_rfl) (by rfl) hh2 ?_ ?_
   ·intro w' hw'
    go_simp
   simp only [Act.put, setIfInBounds_toArray, set_cons_zero, set_cons_succ]
   refine wpAnyH_ready (fuel := 0) (rs := [14]) (by kernel_rfl) (by simp) ?_
   refine AllReadyH.cons (o := ⟨none, _, _, _, _, _⟩) rfl (fun K hK => ?_) AllReadyH.nil
   have hc1 := HC.out _ BB4.out
   have hf1 := HFZ.out _ BB4.out
   go_simp
   show K _ _
   refine hK.out _ _ (fun o => (World.cell?_of_block (heap_setCell_other _ _ _ _ HNE2.out)).trans (LB4.out.mm o)) (fun _ => ?_)
   clear hK K hh2 hc1 hf1
   refine wpAnyH_done (by kernel_rfl) ?_ _
   refine NoPanic.normal ?_
   have HG := Lib.hid (HT.out _ BB4.out _ hown2)
   clear hown2
   go_wp2
   go_ret
   exact ⟨rfl, HG.out⟩
 ·skip
  go_simp
  obtain ⟨W1, hW⟩ : ∃ X, X = W0.alloc (.cells (mcells (newE line d)) 77) := ⟨_, rfl⟩
  rw [← hW]
  have hbb : Below W0.heap.size W0 W1 := by rw [hW]; exact (Below.refl _ _).alloc (Nat.le_refl _) _
  have BB1 := Lib.hid (bstep BB0.out hbb)
  have LB1 := Lib.hid (L2.out.step BB1.out)
  have HM1 := Lib.hid (show W1.heap[W0.heap.size]? = some (.cells (mcells (newE line d)) 77 (0, 0)) by rw [hW]; exact heap_alloc_new W0 _)
  show K _ _
  refine hK.out _ _ LB1.out.mm (fun hh7 => ?_)
  clear hK K hh hbb hW
  refine wpAnyH_ready (fuel := 6) (rs := [1, 5]) (by kernel_rfl) (by simp) ?_
  refine AllReadyH.cons (o := ⟨some 22, _, _, _, _, _⟩) rfl (fun K hK => ?_) (AllReadyH.cons (o := ⟨some 26, _, _, _, _, _⟩) rfl (fun K hK => ?_) AllReadyH.nil)
  ·skip
   go_simp
   obtain ⟨W2, hW⟩ : ∃ X, X = W1.alloc (.cells #[] 77) := ⟨_, rfl⟩
   rw [← hW]
   have hbb : Below W1.heap.size W1 W2 := by rw [hW]; exact (Below.refl _ _).alloc (Nat.le_refl _) _
   have BB2 := Lib.hid (bstep BB1.out hbb)
   have LB2 := Lib.hid (L2.out.step BB2.out)
   have HE2 := Lib.hid (show W2.ownsRow w2.heap.size 77 10 (.slice (some ⟨W1.heap.size, 0, none⟩) 0 0) 0 [] by rw [hW]; exact World.ownsRow_made W1 #[] 0 BB1.out.size (Nat.zero_le _) rfl)
   have HM2 := Lib.hid ((hbb.block _ (lt_of_block HM1.out)).trans HM1.out)
   have hne : W0.heap.size ≠ W1.heap.size := by have := lt_of_block HM1.out; omega
   show K _ _
   refine hK.out _ _ LB2.out.mm (fun hh6 => ?_)
   clear hK K hh7 hbb hW
   refine wpAnyH_ready (fuel := 5) (rs := [5]) (by kernel_rfl) (by simp) ?_
   refine AllReadyH.cons (o := ⟨some 26, _, _, _, _, _⟩) rfl (fun K hK => ?_) AllReadyH.nil
   have hc1 := HC.out _ BB2.out
   go_simp
   show K _ _
   refine hK.out _ _ LB2.out.mm (fun hh5 => ?_)
   clear hK K hh6 hc1
   refine wpAnyH_ready (fuel := 4) (rs := [6]) (by kernel_rfl) (by simp) ?_
   refine AllReadyH.cons (o := ⟨some 27, _, _, _, _, _⟩) rfl (fun K hK => ?_) AllReadyH.nil
   refine step_append_sn rfl (.tmp 22) (.tmp 26) 49 rfl w2.heap.size 77 i0 (.agg (mcells m0)) 10 80 Tryz.underlying49 hi0 hz0 hz1 hz2 rfl (by decide) _ 0 [] rfl HE2.out p l.length cap (cellsOf mc l) rfl HLN.out (HPP.out _ BB2.out) (mcs_one l) (by unfold maxLen; omega) (by omega) BB2.out.size ?_
   intro v1 W3 hown1 hgr1
   have BB3 := Lib.hid (BB2.out.grown hgr1 BB2.out.size (fun k hk => (HE2.out.lt k hk).1))
   have LB3 := Lib.hid (L2.out.step BB3.out)
   have HO3 := Lib.hid (show W3.ownsRow w2.heap.size 77 10 v1 l.length (cellsOf mc l) by simpa using hown1)
   have HM3 := Lib.hid ((hgr1.block W0.heap.size (lt_of_block HM2.out) (fun e => hne (Option.some.inj e))).trans HM2.out)
   refine hK.out _ _ LB3.out.mm (fun hh4 => ?_)
   clear hK K hh5 hown1 hgr1
   simp only [Act.put, setIfInBounds_toArray, set_cons_zero, set_cons_succ]
   refine wpAnyH_ready (fuel := 3) (rs := [11]) (by kernel_rfl) (by simp) ?_
   refine AllReadyH.cons (o := ⟨some 32, _, _, _, _, _⟩) rfl (fun K hK => ?_) AllReadyH.nil
   refine step_append_lies _ rfl (.tmp 27) (.tmp 31) 49 rfl w2.heap.size 77 i0 (.agg (mcells m0)) 10 80 Tryz.underlying49 hi0 hz0 hz1 hz2 rfl (by decide) v1 l.length (cellsOf mc l) rfl HO3.out ⟨W0.heap.size, 0, none⟩ 1 1 (mc (newE line d)) rfl rfl (World.news_of_block (cs := mcells (newE line d)) (t := 77) (fr := (0, 0)) HM3.out) (mc_one _) (by omega) (by unfold maxLen; omega) (by omega) BB3.out.size _ rfl ?_
   intro gg cap2 W4 hown2 hgr2 hat hlt2
   have BB4 := Lib.hid (BB3.out.grown hgr2 BB3.out.size (fun k hk => (HO3.out.lt k hk).1))
   have LB4 := Lib.hid (L2.out.step BB4.out)
   refine hK.out _ _ LB4.out.mm (fun hh2 => ?_)
   clear hK K hh4 hgr2 hat hlt2
   simp only [Act.put, setIfInBounds_toArray, set_cons_zero, set_cons_succ]
   refine tk 2 12 ⟨some 33, _, _, _, _, _⟩ (.pointer (some ⟨b, 0, none⟩)) rfl (by kernel_rfl) (by rfl) hh2 ?_ ?_
   ·intro w' hw'
    go_simp
   simp only [Act.put, setIfInBounds_toArray, set_cons_zero, set_cons_succ]
   refine tk 1 13 ⟨some 34, _, _, _, _, _⟩ (.pointer (some ⟨b, 1, none⟩)) rfl (by kernel_rfl) (by rfl) hh2 ?_ ?_
   ·intro w' hw'
    go_simp
   simp only [Act.put, setIfInBounds_toArray, set_cons_zero, set_cons_succ]
   refine wpAnyH_ready (fuel := 0) (rs := [14]) (by kernel_rfl) (by simp) ?_
   refine AllReadyH.cons (o := ⟨none, _, _, _, _, _⟩) rfl (fun K hK => ?_) AllReadyH.nil
   have hc1 := HC.out _ BB4.out
   have hf1 := HFZ.out _ BB4.out
   go_simp
   show K _ _
   refine hK.out _ _ (fun o => (World.cell?_of_block (heap_setCell_other _ _ _ _ HNE2.out)).trans (LB4.out.mm o)) (fun _ => ?_)
   clear hK K hh2 hc1 hf1
   refine wpAnyH_done (by kernel_rfl) ?_ _
   refine NoPanic.normal ?_
   have HG := Lib.hid (HT.out _ BB4.out _ hown2)
   clear hown2
   go_wp2
   go_ret
   exact ⟨rfl, HG.out⟩
  ·skip
   have hc1 := HC.out _ BB1.out
   go_simp
   show K _ _
   refine hK.out _ _ LB1.out.mm (fun hh6 => ?_)
   clear hK K hh7 hc1
   refine wpAnyH_ready (fuel := 5) (rs := [1]) (by kernel_rfl) (by simp) ?_
   refine AllReadyH.cons (o := ⟨some 22, _, _, _, _, _⟩) rfl (fun K hK => ?_) AllReadyH.nil
   go_simp
   obtain ⟨W2, hW⟩ : ∃ X, X = W1.alloc (.cells #[] 77) := ⟨_, rfl⟩
   rw [← hW]
   have hbb : Below W1.heap.size W1 W2 := by rw [hW]; exact (Below.refl _ _).alloc (Nat.le_refl _) _
   have BB2 := Lib.hid (bstep BB1.out hbb)
   have LB2 := Lib.hid (L2.out.step BB2.out)
   have HE2 := Lib.hid (show W2.ownsRow w2.heap.size 77 10 (.slice (some ⟨W1.heap.size, 0, none⟩) 0 0) 0 [] by rw [hW]; exact World.ownsRow_made W1 #[] 0 BB1.out.size (Nat.zero_le _) rfl)
   have HM2 := Lib.hid ((hbb.block _ (lt_of_block HM1.out)).trans HM1.out)
   have hne : W0.heap.size ≠ W1.heap.size := by have := lt_of_block HM1.out; omega
   show K _ _
   refine hK.out _ _ LB2.out.mm (fun hh5 => ?_)
   clear hK K hh6 hbb hW
   refine wpAnyH_ready (fuel := 4) (rs := [6]) (by kernel_rfl) (by simp) ?_
   refine AllReadyH.cons (o := ⟨some 27, _, _, _, _, _⟩) rfl (fun K hK => ?_) AllReadyH.nil
   refine step_append_sn rfl (.tmp 22) (.tmp 26) 49 rfl w2.heap.size 77 i0 (.agg (mcells m0)) 10 80 Tryz.underlying49 hi0 hz0 hz1 hz2 rfl (by decide) _ 0 [] rfl HE2.out p l.length cap (cellsOf mc l) rfl HLN.out (HPP.out _ BB2.out) (mcs_one l) (by unfold maxLen; omega) (by omega) BB2.out.size ?_
   intro v1 W3 hown1 hgr1
   have BB3 := Lib.hid (BB2.out.grown hgr1 BB2.out.size (fun k hk => (HE2.out.lt k hk).1))
   have LB3 := Lib.hid (L2.out.step BB3.out)
   have HO3 := Lib.hid (show W3.ownsRow w2.heap.size 77 10 v1 l.length (cellsOf mc l) by simpa using hown1)
   have HM3 := Lib.hid ((hgr1.block W0.heap.size (lt_of_block HM2.out) (fun e => hne (Option.some.inj e))).trans HM2.out)
   refine hK.out _ _ LB3.out.mm (fun hh4 => ?_)
   clear hK K hh5 hown1 hgr1
   simp only [Act.put, setIfInBounds_toArray, set_cons_zero, set_cons_succ]
   refine wpAnyH_ready (fuel := 3) (rs := [11]) (by kernel_rfl) (by simp) ?_
   refine AllReadyH.cons (o := ⟨some 32, _, _, _, _, _⟩) rfl (fun K hK => ?_) AllReadyH.nil
   refine step_append_lies _ rfl (.tmp 27) (.tmp 31) 49 rfl w2.heap.size 77 i0 (.agg (mcells m0)) 10 80 Tryz.underlying49 hi0 hz0 hz1 hz2 rfl (by decide) v1 l.length (cellsOf mc l) rfl HO3.out ⟨W0.heap.size, 0, none⟩ 1 1 (mc (newE line d)) rfl rfl (World.news_of_block (cs := mcells (newE line d)) (t := 77) (fr := (0, 0)) HM3.out) (mc_one _) (by omega) (by unfold maxLen; omega) (by omega) BB3.out.size _ rfl ?_
   intro gg cap2 W4 hown2 hgr2 hat hlt2
   have BB4 := Lib.hid (BB3.out.grown hgr2 BB3.out.size (fun k hk => (HO3.out.lt k hk).1))
   have LB4 := Lib.hid (L2.out.step BB4.out)
   refine hK.out _ _ LB4.out.mm (fun hh2 => ?_)
   clear hK K hh4 hgr2 hat hlt2
   simp only [Act.put, setIfInBounds_toArray, set_cons_zero, set_cons_succ]
   refine tk 2 12 ⟨some 33, _, _, _, _, _⟩ (.pointer (some ⟨b, 0, none⟩)) rfl (by kernel_rfl) (by rfl) hh2 ?_ ?_
   ·intro w' hw'
    go_simp
   simp only [Act.put, setIfInBounds_toArray, set_cons_zero, set_cons_succ]
   refine tk 1 13 ⟨some 34, _, _, _, _, _⟩ (.pointer (some ⟨b, 1, none⟩)) rfl (by kernel_rfl) (by rfl) hh2 ?_ ?_
   ·intro w' hw'
    go_simp
   simp only [Act.put, setIfInBounds_toArray, set_cons_zero, set_cons_succ]
   refine wpAnyH_ready (fuel := 0) (rs := [14]) (by kernel_rfl) (by simp) ?_
   refine AllReadyH.cons (o := ⟨none, _, _, _, _, _⟩) rfl (fun K hK => ?_) AllReadyH.nil
   have hc1 := HC.out _ BB4.out
   have hf1 := HFZ.out _ BB4.out
   go_simp
   show K _ _
   refine hK.out _ _ (fun o => (World.cell?_of_block (heap_setCell_other _ _ _ _ HNE2.out)).trans (LB4.out.mm o)) (fun _ => ?_)
   clear hK K hh2 hc1 hf1
   refine wpAnyH_done (by kernel_rfl) ?_ _
   refine NoPanic.normal ?_
   have HG := Lib.hid (HT.out _ BB4.out _ hown2)
   clear hown2
   go_wp2
   go_ret
   exact ⟨rfl, HG.out⟩

theorem refPut_any {w : World} {B b : Nat} {room : Int} {l : List En} {v : Value} (h : BgD w B b room l v) (gd : Good room l) (hB : B ≤ w.heap.size) (line : Int) (d : Wd) :
  Calls Tryz.prog 78 #[.pointer (some ⟨b, 0, none⟩), .int .i64 line, .agg (dcells d)] w (GaveD w B b room v (putP room l line d)) := by
 have hl := gd.short
 have hlen := gd.len
 rcases hp : fnd l line with _ | i
 ·by_cases hf : (l.length : Int) = room
  ·rw [putP_full d hp hf]
   exact (refPut_full h line d hl hp hf).mono fun e w' ⟨h1, h2⟩ => ⟨h1, gave_same h h2⟩
  ·rw [putP_yes d hp hf]
   exact (refPut_yes h hB line d (by omega) gd.r2 hp).mono fun e w' ⟨h1, h2⟩ => ⟨h1, h2⟩
 ·rw [putP_twice d hp]
  exact (refPut_twice h line d hl hp).mono fun e w' ⟨h1, h2⟩ => ⟨h1, gave_same h h2⟩

end Go.Proofs.YtlfhkjjjocmpbaaGreatDoor.Wb

namespace Go.Proofs.YtlfhkjjjocmpbaaGreatDoor.Wb
open Go Go.RowKit

theorem below_boxW (wr : World) (o : Obj) (cs : Array Value) : Below wr.heap.size wr ((wr.alloc o).setRow wr.heap.size cs) := below_setRow (balloc wr o) (Nat.le_refl _) _
theorem refShare_ret {wr : World} {d : Wd} {n : Int} {P : World → Prop} {a : Act} {g : Nat} (hp : a.tmps.getD 4 undef = .pointer (some ⟨g, 0, none⟩)) (hn : a.tmps.getD 5 undef = .int .i64 n) (hd : a.defers = []) (hg : wr.heap[g]? = some (.cells (dcells d) 36 (0, 0))) (hb : P wr) :
  bodyPost Tryz.prog Tryz.f128 (RetW d n P) Exit.ret a wr :=
 bodyPost_ret (v := .tuple #[.agg (dcells d), a.tmps.getD 5 undef]) (results_cell_two Tryz.results128 _ _ g 36 _ (0, 0) _ hp hg Tryz.underlying36 rfl (by kernel_rfl)) hd ⟨by rw [hn], hb⟩
theorem refGive_ret {wr : World} {d : Wd} {n : Int} {P : World → Prop} {a : Act} {g : Nat} (hp : a.tmps.getD 4 undef = .pointer (some ⟨g, 0, none⟩)) (hn : a.tmps.getD 5 undef = .int .i64 n) (hd : a.defers = []) (hg : wr.heap[g]? = some (.cells (dcells d) 36 (0, 0))) (hb : P wr) :
  bodyPost Tryz.prog Tryz.f129 (RetW d n P) Exit.ret a wr :=
 bodyPost_ret (v := .tuple #[.agg (dcells d), a.tmps.getD 5 undef]) (results_cell_two Tryz.results129 _ _ g 36 _ (0, 0) _ hp hg Tryz.underlying36 rfl (by kernel_rfl)) hd ⟨by rw [hn], hb⟩

set_option maxHeartbeats 1000000 in
theorem refShare_any {w : World} {B b : Nat} {room : Int} {l : List En} {v : Value} (h : BgD w B b room l v) (line : Int) (hl : l.length ≤ 8) :
  Calls Tryz.prog 128 #[.pointer (some ⟨b, 0, none⟩), .int .i64 line] w (RetW (ansP id l line).1.1 (ansP id l line).1.2 (Below w.heap.size w)) := by
 have hbx := balloc w (.cells (dcells d0) 36)
 have h' := h.below hbx
 have HP := refPlace_any h' line (by omega)
 have HB := Lib.hid hbx
 have h4 := heap_alloc_new w (.cells (dcells d0) 36)
 have H4 := Lib.hid h4
 clear hbx h4
 rcases hp : fnd l line with _ | i
 ·rw [ansP_none _ hp]
  rw [hp] at HP
  have HP := Lib.hid HP
  clear h h' hp
  go_enter Tryz.func128, Tryz.ntmps128
  go_wp2_with fail
  refine HP.out.mono ?_
  rintro e w1 ⟨rfl, rfl⟩
  simp only [oi]
  go_wp2_with ((with_reducible refine wpList_store_row (o := ⟨none, _, _, _, _, _⟩) rfl 36 (.tmp 4) (.tmp 12) rfl w.heap.size (dcells d0) ?sx ?sy 36 ?old ?sg ?si ?so ?s1 ?_); (case sx => rfl); (case sy => rfl); (case old => exact dcells d0); (case sg => exact H4.out); (case si => kernel_rfl); (case so => rfl); (case s1 => kernel_rfl))
  exact refShare_ret rfl rfl rfl (setRow_heap _ _ _ _ _ _ H4.out) (below_setRow HB.out (Nat.le_refl _) _)
 ·obtain ⟨x, hx, _, hi⟩ := fnd_some hp
  rw [hp] at HP
  have HP := Lib.hid HP
  have hni : ¬ (i : Int) < 0 := by omega
  obtain ⟨g, cap, rfl, _, _, _, hr, _, _, _⟩ := h'.one hx
  have c1 := blk_cell h'.blk 1
  simp at c1
  have HW := Lib.hid (words_of hr)
  rcases Bool.eq_false_or_eq_true x.lv with ht | ht
  ·rw [ansP_yes _ hp hx ht]
   have c9 := (hr 9 _ rfl).trans (congrArg (fun z => some (Value.bool z)) ht)
   clear h h' hp hx hr ht
   go_enter Tryz.func128, Tryz.ntmps128
   go_wp2_with fail
   refine HP.out.mono ?_
   rintro e w1 ⟨rfl, rfl⟩
   simp only [oi]
   go_wp2_with (first
    | ((with_reducible refine wpList_load_at (op := ⟨some 30, _, _, _, _, _⟩) rfl 36 (.tmp 29) rfl g (i * 10 + 1) ?lx (dcells x.wd) _ ?lc Tryz.underlying36 ?ld ?li ?_); (case lx => rfl); (case lc => exact HW.out); (case ld => rfl); (case li => kernel_rfl))
    | ((with_reducible refine wpList_store_row (o := ⟨none, _, _, _, _, _⟩) rfl 36 (.tmp 4) (.tmp 30) rfl w.heap.size (dcells x.wd) ?sx ?sy 36 ?old ?sg ?si ?so ?s1 ?_); (case sx => rfl); (case sy => rfl); (case old => exact dcells d0); (case sg => exact H4.out); (case si => kernel_rfl); (case so => rfl); (case s1 => kernel_rfl)))
   exact refShare_ret rfl rfl rfl (setRow_heap _ _ _ _ _ _ H4.out) (below_setRow HB.out (Nat.le_refl _) _)
  ·rw [ansP_no _ hp hx ht]
   have c9 := (hr 9 _ rfl).trans (congrArg (fun z => some (Value.bool z)) ht)
   clear h h' hp hx hr ht
   go_enter Tryz.func128, Tryz.ntmps128
   go_wp2_with fail
   refine HP.out.mono ?_
   rintro e w1 ⟨rfl, rfl⟩
   simp only [oi]
   go_wp2_with ((with_reducible refine wpList_store_row (o := ⟨none, _, _, _, _, _⟩) rfl 36 (.tmp 4) (.tmp 22) rfl w.heap.size (dcells d0) ?sx ?sy 36 ?old ?sg ?si ?so ?s1 ?_); (case sx => rfl); (case sy => rfl); (case old => exact dcells d0); (case sg => exact H4.out); (case si => kernel_rfl); (case so => rfl); (case s1 => kernel_rfl))
   exact refShare_ret rfl rfl rfl (setRow_heap _ _ _ _ _ _ H4.out) (below_setRow HB.out (Nat.le_refl _) _)
theorem ans_id {l : List En} {line : Int} : (ansP id l line).2 = l := by
 rcases hp : fnd l line with _ | i
 ·rw [ansP_none _ hp]
 ·obtain ⟨x, hx, _, hi⟩ := fnd_some hp
  rcases Bool.eq_false_or_eq_true x.lv with ht | ht
  ·rw [ansP_yes _ hp hx ht]; exact set_same hx
  ·rw [ansP_no _ hp hx ht]

def GaveX (w : World) (B b : Nat) (room : Int) (v : Value) (r : (Wd × Int) × List En) : Ending → World → Prop := RetW r.1.1 r.1.2 (PutGave 64 77 10 mc w B b room r.2 v)

set_option maxHeartbeats 1000000 in
theorem refGive_err {w : World} {B b : Nat} {room : Int} {l : List En} {v : Value} (h : BgD w B b room l v) (line : Int) (hl : l.length ≤ 8) {d : Wd} {n : Int} (hn : (n == 0) = false) (e1 : ansP id l line = ((d, n), l)) :
  Calls Tryz.prog 129 #[.pointer (some ⟨b, 0, none⟩), .int .i64 line] w (RetW d n (Below w.heap.size w)) := by
 have HS := refShare_any (h.below (balloc w (.cells (dcells d0) 36))) line hl
 rw [e1] at HS
 have HS := Lib.hid HS
 clear h e1
 go_enter Tryz.func129, Tryz.ntmps129
 go_wp2_with fail
 refine HS.out.mono ?_
 rintro e w1 ⟨rfl, hb1⟩
 have hb2 := hb1.trans ((below_boxW w1 (.cells #[.int .i64 0, .int .i64 0, .int .i64 0, .int .i64 0, .int .i64 0, .int .i64 0, .int .i64 0, .int .i64 0] 36) (dcells d)).mono hb1.size)
 have HB2 := Lib.hid hb2
 have h4 := box_at hb2
 have H4 := Lib.hid h4
 have H6 := Lib.hid (setRow_heap _ _ _ (dcells d) _ _ (heap_alloc_new w1 (.cells #[.int .i64 0, .int .i64 0, .int .i64 0, .int .i64 0, .int .i64 0, .int .i64 0, .int .i64 0, .int .i64 0] 36)))
 clear hb1 hb2 h4
 go_wp2_with (first
  | ((with_reducible refine wpList_store_row (o := ⟨none, _, _, _, _, _⟩) rfl 36 (.tmp 6) (.tmp 12) rfl w1.heap.size (dcells d) ?sx ?sy 36 ?old ?sg ?si ?so ?s1 ?_); (case sx => rfl); (case sy => rfl); (case old => exact dcells d0); (case sg => exact heap_alloc_new w1 _); (case si => kernel_rfl); (case so => rfl); (case s1 => kernel_rfl); generalize (w1.alloc (.cells #[.int .i64 0, .int .i64 0, .int .i64 0, .int .i64 0, .int .i64 0, .int .i64 0, .int .i64 0, .int .i64 0] 36)).setRow w1.heap.size (dcells d) = w2 at *; have hk6 := HB2.out.size; generalize w1.heap.size = k6 at *)
  | ((with_reducible refine wpList_load_row (o := ⟨some 25, _, _, _, _, _⟩) rfl 36 (.tmp 6) rfl k6 ?lx 36 (dcells d) (0, 0) _ ?lg Tryz.underlying36 ?ld ?li ?_); (case lx => rfl); (case lg => exact H6.out); (case ld => rfl); (case li => kernel_rfl))
  | ((with_reducible refine wpList_store_row (o := ⟨none, _, _, _, _, _⟩) rfl 36 (.tmp 4) (.tmp 25) rfl w.heap.size (dcells d) ?sx ?sy 36 ?old ?sg ?si ?so ?s1 ?_); (case sx => rfl); (case sy => rfl); (case old => exact dcells d0); (case sg => exact H4.out); (case si => kernel_rfl); (case so => rfl); (case s1 => kernel_rfl)))
 exact refGive_ret rfl rfl rfl (setRow_heap _ _ _ _ _ _ H4.out) (below_setRow (bbox HB2.out) (Nat.le_refl _) _)
set_option maxHeartbeats 2000000 in
set_option maxRecDepth 100000 in
theorem refGive_yes {w : World} {B b : Nat} {room : Int} {l : List En} {g cap : Nat} (h : BgD w B b room l (.slice (some ⟨g, 0, none⟩) l.length cap)) (line : Int) (hl : l.length ≤ 8) {i : Nat} {x : En} (hp : fnd l line = some i) (hx : l[i]? = some x) (ht : x.lv = true) :
  Calls Tryz.prog 129 #[.pointer (some ⟨b, 0, none⟩), .int .i64 line] w (RetW x.wd 0 (PutGave 64 77 10 mc w B b room (l.set i (gone x)) (.slice (some ⟨g, 0, none⟩) l.length cap))) := by
 have h' := h.below (balloc w (.cells (dcells d0) 36))
 have HS := refShare_any h' line hl
 rw [ansP_yes _ hp hx ht] at HS
 have HS := Lib.hid HS
 have hi := (List.getElem?_eq_some_iff.1 hx).1
 have hgl := (h.row.lt g rfl).2
 have hni : (0 : Int) ≤ (i : Int) := by omega
 have HP := Lib.hid (fun w1 (hb : Below (w.alloc (.cells (dcells d0) 36)).heap.size (w.alloc (.cells (dcells d0) 36)) w1) => by
  have := refPlace_any (h'.below hb) line (by omega)
  rw [hp] at this
  exact (this.mono fun e w' ⟨h1, h2⟩ => ⟨h1, h2.symm⟩ : Calls Tryz.prog 71 #[.pointer (some ⟨b, 0, none⟩), .int .i64 line] w1 fun e w' => e = .returned (.int .i64 (i : Int)) ∧ w' = w1))
 have HC := Lib.hid (fun w1 (hb : Below (w.alloc (.cells (dcells d0) 36)).heap.size (w.alloc (.cells (dcells d0) 36)) w1) => (⟨blk_cell (h'.below hb).blk 1, ((h'.below hb).at1 hx).row 9 _ rfl, ((h'.below hb).at1 hx).fz (i * 10 + 9)⟩ : w1.cell? ⟨b, 1, none⟩ = some (.slice (some ⟨g, 0, none⟩) l.length cap) ∧ w1.cell? ⟨g, i * 10 + 9, none⟩ = some (.bool x.lv) ∧ w1.frozen? ⟨g, i * 10 + 9, none⟩ = false))
 have ho : ∀ m, m < 10 → m < 9 ∨ 9 + 1 ≤ m → (mc (gone x))[m]? = (mc x)[m]? := fun m hm hm2 => by
  rcases (show m = 0 ∨ m = 1 ∨ m = 2 ∨ m = 3 ∨ m = 4 ∨ m = 5 ∨ m = 6 ∨ m = 7 ∨ m = 8 by omega) with rfl | rfl | rfl | rfl | rfl | rfl | rfl | rfl | rfl
  all_goals rfl
 have hn : ∀ m, m < [Value.bool false].length → (mc (gone x))[9 + m]? = [Value.bool false][m]? := fun m hm => by simp at hm; subst hm; rfl
 have HE := Lib.hid (fun w1 (hb : Below (w.alloc (.cells (dcells d0) 36)).heap.size (w.alloc (.cells (dcells d0) 36)) w1) => gave_box h (gave_store h' hb hx (gone x) 9 [.bool false] (by simp) hn ho))
 clear h h' hp hx ht ho hn
 go_enter Tryz.func129, Tryz.ntmps129
 go_wp2_with fail
 refine HS.out.mono ?_
 rintro e w1 ⟨rfl, hb1⟩
 have hz1 := zbox hb1
 have hb2 := hb1.trans ((below_boxW w1 (.cells #[.int .i64 0, .int .i64 0, .int .i64 0, .int .i64 0, .int .i64 0, .int .i64 0, .int .i64 0, .int .i64 0] 36) (dcells x.wd)).mono hb1.size)
 have HB2 := Lib.hid hb2
 have H6 := Lib.hid (setRow_heap _ _ _ (dcells x.wd) _ _ (heap_alloc_new w1 (.cells #[.int .i64 0, .int .i64 0, .int .i64 0, .int .i64 0, .int .i64 0, .int .i64 0, .int .i64 0, .int .i64 0] 36)))
 clear hb1 hb2
 go_wp2_with (first
  | ((with_reducible refine wpList_store_row (o := ⟨none, _, _, _, _, _⟩) rfl 36 (.tmp 6) (.tmp 12) rfl w1.heap.size (dcells x.wd) ?sx ?sy 36 ?old ?sg ?si ?so ?s1 ?_); (case sx => rfl); (case sy => rfl); (case old => exact dcells d0); (case sg => exact heap_alloc_new w1 _); (case si => kernel_rfl); (case so => rfl); (case s1 => kernel_rfl); generalize (w1.alloc (.cells #[.int .i64 0, .int .i64 0, .int .i64 0, .int .i64 0, .int .i64 0, .int .i64 0, .int .i64 0, .int .i64 0] 36)).setRow w1.heap.size (dcells x.wd) = w2 at *; have hk6 := HB2.out.size; generalize w1.heap.size = k6 at *)
  | fail)
 obtain ⟨c1, c9, f9⟩ := HC.out _ HB2.out.drew
 have HPW := Lib.hid (HP.out _ HB2.out.drew)
 refine wp_region_still_tail 9 (by kernel_rfl) (by kernel_rfl) ?_
 simp only [List.take_succ_cons, List.take_zero, List.drop_succ_cons, List.drop_zero]
 repeat still_step
 still_call HPW.out
 repeat still_step
 refine wpStill_nil ?_
 change wpList _ _ _ _ _ w2.drew
 obtain ⟨h4, R⟩ := HE.out _ HB2.out.drew
 have h6 := (heap_setCell_other w2.drew ⟨g, i * 10 + 9, none⟩ k6 (.bool false) (by simp only; omega)).trans H6.out
 have H6 := Lib.hid h6
 have H4 := Lib.hid h4
 have R := Lib.hid R
 clear h4 h6 c1
 go_wp2_with (first
  | ((with_reducible refine wpList_load_row (o := ⟨some 25, _, _, _, _, _⟩) rfl 36 (.tmp 6) rfl k6 ?lx 36 (dcells x.wd) (0, 0) _ ?lg Tryz.underlying36 ?ld ?li ?_); (case lx => rfl); (case lg => exact H6.out); (case ld => rfl); (case li => kernel_rfl))
  | ((with_reducible refine wpList_store_row (o := ⟨none, _, _, _, _, _⟩) rfl 36 (.tmp 4) (.tmp 25) rfl w.heap.size (dcells x.wd) ?sx ?sy 36 ?old ?sg ?si ?so ?s1 ?_); (case sx => rfl); (case sy => rfl); (case old => exact dcells d0); (case sg => exact H4.out); (case si => kernel_rfl); (case so => rfl); (case s1 => kernel_rfl)))
 exact refGive_ret rfl rfl rfl (setRow_heap _ _ _ _ _ _ H4.out) (R.out _)

theorem refGive_any {w : World} {B b : Nat} {room : Int} {l : List En} {v : Value} (h : BgD w B b room l v) (line : Int) (hl : l.length ≤ 8) :
  Calls Tryz.prog 129 #[.pointer (some ⟨b, 0, none⟩), .int .i64 line] w (GaveX w B b room v (ansP gone l line)) := by
 rcases hp : fnd l line with _ | i
 ·rw [ansP_none _ hp]
  exact (refGive_err h line hl (by decide) (ansP_none _ hp)).mono fun e w' ⟨h1, h2⟩ => ⟨h1, gave_same h h2⟩
 ·obtain ⟨x, hx, _, hi⟩ := fnd_some hp
  obtain ⟨g, cap, rfl, _⟩ := h.one hx
  rcases Bool.eq_false_or_eq_true x.lv with ht | ht
  ·rw [ansP_yes _ hp hx ht]
   exact (refGive_yes h line hl hp hx ht).mono fun e w' ⟨h1, h2⟩ => ⟨h1, h2⟩
  ·rw [ansP_no _ hp hx ht]
   exact (refGive_err h line hl (by decide) (ansP_no _ hp hx ht)).mono fun e w' ⟨h1, h2⟩ => ⟨h1, gave_same h h2⟩

end Go.Proofs.YtlfhkjjjocmpbaaGreatDoor.Wb

namespace Go.Proofs.YtlfhkjjjocmpbaaGreatDoor.Wb
open Go Go.RowKit

def but (l : List En) (i k : Nat) : List En := (l.take k).eraseIdx i
theorem but_zero (l : List En) (i : Nat) : but l i 0 = [] := by simp [but]
theorem but_ne (l : List En) (i k : Nat) (x : En) (hx : l[k]? = some x) (h : k ≠ i) : but l i (k + 1) = but l i k ++ [x] := by
 obtain ⟨hk, e⟩ := List.getElem?_eq_some_iff.1 hx
 unfold but
 rw [List.take_succ_eq_append_getElem hk, e]
 have hl : (l.take k).length = k := by rw [List.length_take]; omega
 rcases Nat.lt_or_ge i k with hi | hi
 ·rw [List.eraseIdx_append_of_lt_length (by omega)]
 ·rw [List.eraseIdx_of_length_le (by simp; omega), List.eraseIdx_of_length_le (by omega)]
theorem but_eq (l : List En) (i : Nat) (hi : i < l.length) : but l i (i + 1) = but l i i := by
 unfold but
 rw [List.take_succ_eq_append_getElem hi]
 have hl : (l.take i).length = i := by rw [List.length_take]; omega
 rw [List.eraseIdx_append_of_length_le (by omega), hl, Nat.sub_self]
 simp [List.eraseIdx_of_length_le, hl]
theorem but_len (l : List En) (i k : Nat) : (but l i k).length ≤ k := by
 unfold but
 have h := List.length_eraseIdx_le (l.take k) i
 have h2 : (l.take k).length ≤ k := by rw [List.length_take]; omega
 omega

def DropRel (w : World) (l : List En) (i : Nat) (out t : Value) (wr : World) : Prop :=
 ∃ k : Nat, k ≤ l.length ∧ t = .int .i64 k ∧ wr.ownsRow w.heap.size 77 10 out (but l i k).length (cellsOf mc (but l i k)) ∧ Below w.heap.size w wr

theorem refDrop_none {w : World} {B b : Nat} {room : Int} {l : List En} {v : Value} (h : BgD w B b room l v) (line : Int) (hl : l.length ≤ 5000) (hp : fnd l line = none) :
  Calls Tryz.prog 86 #[.pointer (some ⟨b, 0, none⟩), .int .i64 line] w fun e w' => e = .returned (.int .i64 5) ∧ w = w' := by
 have HP := refPlace_any h line hl
 rw [hp] at HP
 have HP := Lib.hid HP
 clear h hp
 go_enter Tryz.func86, Tryz.ntmps86
 go_wp2_with fail
 refine HP.out.mono ?_
 rintro e w1 ⟨rfl, rfl⟩
 simp only [oi]
 go_wp2
 go_ret
 exact ⟨rfl, rfl⟩

set_option maxRecDepth 100000 in
set_option maxHeartbeats 800000 in
theorem refDrop_yes {w : World} {B b : Nat} {room : Int} {l : List En} {g cap : Nat} (h : BgD w B b room l (.slice (some ⟨g, 0, none⟩) l.length cap)) (hB : B ≤ w.heap.size) (line : Int) (hl : l.length ≤ 5000) {i : Nat} {x : En} (hp : fnd l line = some i) (hx : l[i]? = some x) :
  Calls Tryz.prog 86 #[.pointer (some ⟨b, 0, none⟩), .int .i64 line] w fun e w' => e = .returned (.int .i64 0) ∧ PutGave 64 77 10 mc w B b room (l.eraseIdx i) (.slice (some ⟨g, 0, none⟩) l.length cap) w' := by
 obtain ⟨i0, hi0, hz0, hz1, hz2⟩ := info_parts A39
 have HP := refPlace_any h line hl
 rw [hp] at HP
 have HP := Lib.hid HP
 have hi := (List.getElem?_eq_some_iff.1 hx).1
 have hni : ¬ (i : Int) < 0 := by omega
 have hlt := h.lt
 have hgl := (h.row.lt g rfl).2
 have c1 := blk_cell h.blk 1
 simp at c1
 obtain ⟨q, cap', e0, hin⟩ := h.ins
 obtain ⟨rfl, rfl⟩ : some (⟨g, 0, none⟩ : Addr) = q ∧ cap = cap' := by simpa using e0
 have HI := Lib.hid hin
 have H := Lib.hid h
 clear h hp hx e0 hin
 go_enter Tryz.func86, Tryz.ntmps86
 go_wp2_with fail
 refine HP.out.mono ?_
 rintro e w1 ⟨rfl, rfl⟩
 simp only [oi]
 go_wp2
 go_loopw [6, 7] (fun out t wr => DropRel w l i out t wr) (fun _ t _ => l.length - (intOf t).toNat)
 case atStart =>
  refine ⟨0, Nat.zero_le _, rfl, ?_, (Below.refl _ _).alloc (Nat.le_refl _) _⟩
  rw [but_zero]
  exact World.ownsRow_made w #[] 0 (Nat.le_refl _) (Nat.zero_le _) rfl
 case round =>
  obtain ⟨k, hk, rfl, hown, hb⟩ := hrel
  have hcc := (hb.cell (p := ⟨b, 1, none⟩) hlt).trans c1
  have hsz := hb.size
  have HO := Lib.hid hown
  have HB := Lib.hid hb
  clear hown hb
  by_cases hlk : k < l.length
  ·obtain ⟨y, hy⟩ : ∃ y, l[k]? = some y := ⟨_, List.getElem?_eq_getElem hlk⟩
   obtain ⟨g2, e2, _, hry⟩ := HI.out.step HB.out k y hy
   obtain rfl : g = g2 := by simpa using e2
   have HRY := Lib.hid hry
   have HY := Lib.hid hy
   clear hy hry e2
   by_cases hki : k = i
   ·have hne : ((k : Int) != (i : Int)) = false := by simp [hki]
    have HK := Lib.hid hki
    clear hki
    go_wp2
    go_roundw
    case rel =>
     refine ⟨k + 1, by omega, by go_num, ?_, HB.out⟩
     rw [HK.out, but_eq l i hi, ← HK.out]
     exact HK.out ▸ HO.out
    case measure => simp [intOf]; omega
   ·have hne : ((k : Int) != (i : Int)) = true := by simp; omega
    have HK := Lib.hid hki
    have hbl := but_len l i k
    have HOO := Lib.hid (HO.out.alloc (.cells (mcells y) 77))
    clear hki
    go_wp2_with (first
     | ((with_reducible refine wpList_load_at (op := ⟨some 33, _, _, _, _, _⟩) rfl 77 (.tmp 32) rfl g (k * 10) ?lx (mcells y) _ ?lc Tryz.underlying77 ?ld ?li ?_); (case lx => rfl); (case lc => exact HRY.out); (case ld => rfl); (case li => kernel_rfl))
     | (at_builtin; refine wpList_append_lies _ rfl (.tmp 26) (.tmp 34) 49 rfl w.heap.size 77 i0 (.agg (mcells m0)) 10 80 Tryz.underlying49 hi0 hz0 hz1 hz2 rfl (by decide) _ (but l i k).length (cellsOf mc (but l i k)) rfl HOO.out ⟨wr.heap.size, 0, none⟩ 1 1 (mc y) rfl rfl ?c1 ?c2 (by decide) ?c3 ?c4 ?c5 _ rfl ?_))
    case c1 => exact World.news_of_block (cs := mcells y) (t := 77) (fr := (0, 0)) (heap_alloc_new wr _)
    case c2 => exact mc_one _
    case c3 => simp only [maxLen]; omega
    case c4 => omega
    case c5 => simp; omega
    intro g' cap' w2 hown hgrow hat hlt2
    have hb2 := (HB.out.alloc (by omega) (.cells (mcells y) 77)).grown hgrow (by simp; omega) (fun k hk => (HO.out.lt k hk).1)
    have HO2 := Lib.hid hown
    have HB2 := Lib.hid hb2
    clear hown hgrow hat hb2
    go_wp2
    go_roundw
    case rel =>
     refine ⟨k + 1, by omega, by go_num, ?_, HB2.out⟩
     rw [but_ne l i k y HY.out HK.out, cellsOf_append, List.length_append]
     simpa [cellsOf] using HO2.out
    case measure => simp [intOf]; omega
  ·have hkl : k = l.length := by omega
   have hbk := (HB.out.block b hlt).trans H.out.blk
   have hfz := blk_free hbk 1
   obtain ⟨q, cq, hq⟩ : ∃ q cq, u6 = Value.slice q (but l i k).length cq := by
    rcases HO.out.2 with ⟨e, h0⟩ | ⟨g', cap', cur, e, _⟩
    ·exact ⟨none, 0, by rw [e, h0]⟩
    ·exact ⟨_, cap', e⟩
   subst hq
   have HK := Lib.hid hkl
   have HBK := Lib.hid hbk
   clear hkl hbk
   go_wp2
   go_ret
   refine ⟨rfl, gave_new (n := (but l i k).length) H.out HB.out hB ?_ ?_⟩
   ·rw [HK.out]; unfold but; rw [List.take_length]
   ·have := HO.out
    have e : but l i k = l.eraseIdx i := by rw [HK.out]; unfold but; rw [List.take_length]
    rw [e] at this ⊢
    exact this
theorem refDrop_any {w : World} {B b : Nat} {room : Int} {l : List En} {v : Value} (h : BgD w B b room l v) (hB : B ≤ w.heap.size) (line : Int) (hl : l.length ≤ 5000) :
  Calls Tryz.prog 86 #[.pointer (some ⟨b, 0, none⟩), .int .i64 line] w (GaveD w B b room v (dropP l line)) := by
 rcases hp : fnd l line with _ | i
 ·rw [dropP_none hp]
  exact (refDrop_none h line hl hp).mono fun e w' ⟨h1, h2⟩ => ⟨h1, gave_same h (h2 ▸ Below.refl _ _)⟩
 ·obtain ⟨x, hx, _, hi⟩ := fnd_some hp
  obtain ⟨g, cap, rfl, _⟩ := h.one hx
  rw [dropP_yes hp]
  exact (refDrop_yes h hB line hl hp hx).mono fun e w' ⟨h1, h2⟩ => ⟨h1, h2⟩

end Go.Proofs.YtlfhkjjjocmpbaaGreatDoor.Wb
