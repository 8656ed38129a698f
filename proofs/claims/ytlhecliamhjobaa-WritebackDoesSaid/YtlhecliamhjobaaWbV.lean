/-
  The document's Put.
-/
import Derived.Test.YtlhecliamhjobaaWbR
import Derived.Test.YtlhecliamhjobaaWbF
import Derived.Laws.AppendOwnNone
import Derived.Deep.RegionHeld3
namespace Go.Proofs.Ytlhecliamhjobaa
open Go Go.RowKit

/-- append of a slice that may be none, to a row of the call's own, as a step of a region. -/
theorem step_append_sn {P : Program} {ops : Array Oper} {o : Oper} {a : Act} {w : World} {K : Act → World → Prop} {Q : Exit → Act → World → Prop} {E : Prop} (hgd : o.guard = none) (s x : Operand) (t : TypeId)
    (ho : o.op = .call { callee := .builtin .append, args := #[s, x], argTypes := #[t, t] })
    (base : Nat) (e : TypeId) (i : TypeInfo) (z : Value) (size bytes : Nat) (ht : P.underlying t = some (.slice e)) (hi : P.info? e = some i) (hz : i.zero = some z)
    (hsize : i.size = size) (hby : i.bytes = bytes) (hzs : z.cells.size = size) (hsz : 0 < size)
    (v : Value) (n : Nat) (xs : List Value) (hs : a.eval s = v) (hown : w.ownsRow base e size v n xs)
    (p : Option Addr) (m c : Nat) (news : List Value) (hx : a.eval x = .slice p m c) (hl : news.length = m * size) (hp : (p = none ∧ m = 0 ∧ c = 0) ∨ ∃ ad, p = some ad ∧ ∀ j u, news[j]? = some u → w.cell? (ad.add j) = some u) (h1 : ∀ u ∈ news, u.oneCell' = true)
    (h63 : n + m ≤ maxLen) (hbytes : (n + m) * bytes ≤ 140737488355328) (hbase : base ≤ w.heap.size)
    (h : ∀ v' w', w'.ownsRow base e size v' (n + m) (xs ++ news) → w.grownBy w' v.ownBlock → K (a.put o.dst v') w') :
    if Region.wanted o (yielded ops a.tmps) = true then Oper.wp P o a w K Q else E := by
  have hw : Region.wanted o (yielded ops a.tmps) = true := by simp [Region.wanted, hgd]
  rw [if_pos hw]
  rcases hp with ⟨rfl, rfl, rfl⟩ | ⟨ad, rfl, hc⟩
  · have hn : news = [] := List.eq_nil_of_length_eq_zero (by rw [hl]; simp)
    subst hn
    have hrun := run_append_owned_none (P := P) (w := w) base t o.type e i size ht hi v n xs hown
    unfold Oper.wp
    simp [execOp, ho, resolve, invoke, builtin, hs, hx, hrun, Result.andThen]
    exact h v w (by simpa using hown) ⟨rfl, rfl, rfl, Nat.le_refl _, fun _ _ _ => rfl⟩
  · obtain ⟨v', w', hrun, r1, r2, _⟩ := run_append_own (P := P) w base t o.type e i z size bytes ht hi hz hsize hby hzs hsz v n xs hown ad m c news hl hc h1 h63 hbytes hbase
    unfold Oper.wp
    simp [execOp, ho, resolve, invoke, builtin, hs, hx, hrun, Result.andThen]
    exact h v' w' r1 r2


/-- What a change of the document's buffer gives. -/
structure GaveD (w : World) (B b : Nat) (room : Int) (v : Value) (r : Int × List En) (e : Ending) (w' : World) : Prop where
  res : e = .returned (.int .i64 r.1)
  put : PutGave 44 47 10 mc w B b room r.2 v w'
theorem own_below {w w' : World} {base e sz n : Nat} {v : Value} {xs : List Value} (h : w.ownsRow base e sz v n xs) (hb : Below w.heap.size w w') : w'.ownsRow base e sz v n xs := own_block h fun k hk => hb.block k (h.lt k hk).2
theorem gave_new {T e : TypeId} {w w2 : World} {B b : Nat} {room : Int} {l m : List En} {v u : Value} {n : Nat} (h : Bg T e 10 mc w B b room l v) (hw : Below w.heap.size w w2) (hB : B ≤ w.heap.size) (hm : m.length = n)
    (hown : w2.ownsRow w.heap.size e 10 u n (cellsOf mc m)) : PutGave T e 10 mc w B b room m v (w2.setCell ⟨b, 1, none⟩ u) := by
  have hbl := h.lt
  have hb2 : w2.heap[b]? = some (.cells #[.int .i64 room, v] T (0, 0)) := (hw.block b hbl).trans h.blk
  have hu : ∀ k, u.ownBlock = some k → w.heap.size ≤ k := fun k hk => (hown.lt k hk).1
  subst hm
  refine ⟨u, ⟨?_, ?_, ?_, h.big⟩, ?_, ?_⟩
  · rw [heap_setCell_same w2 b 1 _ _ _ hb2]
    rfl
  · exact own_base (own_block (w' := w2.setCell ⟨b, 1, none⟩ u) hown fun k hk => heap_setCell_other _ _ _ _ (by have := hu k hk; simp only; omega)) fun k hk => by have := hu k hk; omega
  · exact fun e => by have := hu b e; omega
  · refine ⟨hw.os, hw.tape, hw.output, ?_, fun k hk h1 _ => ?_⟩
    · have := hw.size; simp [World.setCell]; omega
    · exact (heap_setCell_other _ _ _ _ h1).trans (hw.block k hk)
  · exact fun k hk => .inr (hu k hk)
/-- A box of words, behind a call's first steps. -/
structure Bx (w : World) (b : Nat) (d : Wd) (X : World) : Prop where
  lt : b < w.heap.size
  gt : w.heap.size < X.heap.size
  below : Below w.heap.size w X
  mm : ∀ o, X.cell? ⟨w.heap.size, o, none⟩ = (dcells d)[o]?
theorem Bx.new {w : World} {b : Nat} (d : Wd) (h : b < w.heap.size) : Bx w b d (w.alloc (.cells (dcells d) 32)) := ⟨h, by simp, balloc _ _, blk_cell (heap_alloc_new w _)⟩
theorem Bx.step {w X Z : World} {b : Nat} {d : Wd} (h : Bx w b d X) (hb : Below X.heap.size X Z) : Bx w b d Z := ⟨h.lt, Nat.lt_of_lt_of_le h.gt hb.size, bstep h.below hb, fun o => (hb.cell (p := ⟨w.heap.size, o, none⟩) h.gt).trans (h.mm o)⟩

set_option maxHeartbeats 1000000 in
theorem refPut_twice {w : World} {B b : Nat} {room : Int} {l : List En} {v : Value} (h : BgD w B b room l v) (line : Int) (d : Wd) (hl : l.length ≤ 8) {i : Nat} (hp : fnd l line = some i) :
    Calls Try.prog 9 #[.pointer (some ⟨b, 0, none⟩), .int .i64 line, .agg (dcells d)] w fun e w' => e = .returned (.int .i64 6) ∧ Below w.heap.size w w' := by
  have hbx := balloc w (.cells (dcells d) 32)
  have HP := refPlace_any (h.below hbx) line (by omega)
  rw [hp] at HP
  have HP := Lib.hid HP
  have HB := Lib.hid hbx
  have hni : (0 : Int) ≤ (i : Int) := by omega
  clear h hp hbx
  go_enter Try.func9, Try.ntmps9
  go_wp2_with fail
  refine HP.out.mono ?_
  rintro e w1 ⟨rfl, rfl⟩
  simp only [oi]
  go_wp2
  go_ret
  exact ⟨rfl, HB.out⟩
set_option maxHeartbeats 1000000 in
theorem refPut_full {w : World} {B b : Nat} {room : Int} {l : List En} {v : Value} (h : BgD w B b room l v) (line : Int) (d : Wd) (hl : l.length ≤ 8) (hp : fnd l line = none) (hf : (l.length : Int) = room) :
    Calls Try.prog 9 #[.pointer (some ⟨b, 0, none⟩), .int .i64 line, .agg (dcells d)] w fun e w' => e = .returned (.int .i64 4) ∧ Below w.heap.size w w' := by
  have hbx := balloc w (.cells (dcells d) 32)
  have HP := refPlace_any (h.below hbx) line (by omega)
  rw [hp] at HP
  have HP := Lib.hid HP
  have hd : decide (room ≤ (l.length : Int)) = true := by simp; omega
  obtain ⟨q, cap, rfl, hq⟩ := h.form
  have c0 := blk_cell (h.below hbx).blk 0
  have c1 := blk_cell (h.below hbx).blk 1
  simp at c0 c1
  have HB := Lib.hid hbx
  clear h hp hf hq hbx
  go_enter Try.func9, Try.ntmps9
  go_wp2_with fail
  refine HP.out.mono ?_
  rintro e w1 ⟨rfl, rfl⟩
  simp only [oi]
  go_wp2
  go_quiet (fail)
  go_wp2
  go_ret
  exact ⟨rfl, below_drewN HB.out _⟩

set_option maxRecDepth 100000 in
set_option maxHeartbeats 4000000 in
theorem refPut_yes {w : World} {B b : Nat} {room : Int} {l : List En} {v : Value} (h : BgD w B b room l v) (hB : B ≤ w.heap.size) (line : Int) (d : Wd) (hl : (l.length : Int) < room) (h2 : room ≤ 8) (hp : fnd l line = none) :
    Calls Try.prog 9 #[.pointer (some ⟨b, 0, none⟩), .int .i64 line, .agg (dcells d)] w fun e w' => e = .returned (.int .i64 0) ∧ PutGave 44 47 10 mc w B b room (l ++ [newE line d]) v w' := by
  obtain ⟨i0, hi0, hz0, hz1, hz2⟩ := info_parts A39
  have hbx := balloc w (.cells (dcells d) 32)
  have L1 := Lib.hid (Bx.new d h.lt)
  have h' := h.below hbx
  have HP := refPlace_any h' line (by omega)
  rw [hp] at HP
  have HP := Lib.hid HP
  have hN8 : l.length ≤ 8 := by omega
  have hd : decide (room ≤ (l.length : Int)) = false := by simp; omega
  obtain ⟨p, cap, rfl, hq⟩ := h.form
  have H2 := Lib.hid h'
  have c0 := blk_cell h'.blk 0
  have c1 := blk_cell h'.blk 1
  simp at c0 c1
  have HBB := Lib.hid hB
  clear h h' hp hl hq hbx hB
  go_enter Try.func9, Try.ntmps9
  go_wp2_with fail
  refine HP.out.mono ?_
  rintro e w1 ⟨rfl, rfl⟩
  simp only [oi]
  obtain ⟨w2, hw2⟩ : ∃ w2, w2 = w.alloc (.cells (dcells d) 32) := ⟨_, rfl⟩
  rw [← hw2] at L1 H2 c0 c1 ⊢
  clear HP hw2
  have L2 := L1
  clear L1
  go_wp2
  go_quiet (fail)
  go_wp2_with fail
  have hlt2 := L2.out.lt
  have hB2 := L2.out.below.size
  have hrl : b < w2.heap.size := Nat.lt_trans L2.out.lt L2.out.gt
  have HC : Hid (∀ X, Below w2.heap.size w2 X → X.cell? ⟨b, 1, none⟩ = some (.slice p l.length cap)) := Lib.hid (fun X hb => (hb.cell (p := ⟨b, 1, none⟩) hrl).trans c1)
  have HFZ : Hid (∀ X, Below w2.heap.size w2 X → X.frozen? ⟨b, 1, none⟩ = false) := Lib.hid (fun X hb => blk_free (H2.out.below hb).blk _)
  have HLN : Hid ((cellsOf mc l).length = l.length * 10) := Lib.hid (cellsOf_len mc_len l)
  have HPP : Hid (∀ X, Below w2.heap.size w2 X → (p = none ∧ l.length = 0 ∧ cap = 0) ∨ ∃ ad, p = some ad ∧ ∀ q x, (cellsOf mc l)[q]? = some x → X.cell? (ad.add q) = some x) := Lib.hid (fun X hb => by
    have hrow' := (H2.out.below hb).row
    rcases hrow'.2 with ⟨e, h0⟩ | ⟨g, cp, cur, e, _⟩
    · simp only [Value.slice.injEq] at e
      exact .inl ⟨e.1, h0, e.2.2⟩
    · simp only [Value.slice.injEq] at e
      obtain ⟨rfl, -, rfl⟩ := e
      exact .inr ⟨_, rfl, fun q x hx => hrow'.cells rfl q x hx⟩)
  have HNE2 : Hid (w.heap.size ≠ b) := Lib.hid (by omega)
  have HT : Hid (∀ X, Below w2.heap.size w2 X → ∀ y, X.ownsRow w2.heap.size 47 10 y (l.length + 1) (cellsOf mc l ++ mc (newE line d)) → PutGave 44 47 10 mc w B b room (l ++ [newE line d]) (.slice p l.length cap) (X.setCell ⟨b, 1, none⟩ y)) := Lib.hid (fun X hb y hy => PutGave.after (gave_new (n := l.length + 1) H2.out hb (Nat.le_trans HBB.out hB2) (by simp) (by rw [cellsOf_append]; simpa [cellsOf] using hy)) L2.out.below)
  obtain ⟨W0, hW⟩ : ∃ X, X = (w2.drewN nq).drew := ⟨_, rfl⟩
  have BB0 : Hid (Below w2.heap.size w2 W0) := Lib.hid (by rw [hW]; exact (below_drewN (Below.refl _ _) _).drew)
  have LB0 := Lib.hid (L2.out.step BB0.out)
  have hS0 := LB0.out.mm
  rw [hW] at hS0
  clear c0 c1 hlt2 hrl
  refine wp_region_noPanic ?_
  refine wp_region_held_drew (S := fun w' => ∀ o, w'.cell? ⟨w.heap.size, o, none⟩ = (dcells d)[o]?) (by kernel_rfl) hS0 (fun hh => ?_)
  rw [← hW] at hh ⊢
  clear hW hS0
  refine wpAnyH_take (fuel := 14) (i := 0) (oi := ⟨some 21, _, _, _, _, _⟩) (v := .pointer (some ⟨b, 0, none⟩)) rfl (by kernel_rfl) (by kernel_rfl) (by kernel_rfl) (fun _ _ _ h => h) (Or.inl ⟨by rfl, ?_⟩) hh ?_
  · intro w' hw'
    go_simp
  simp only [Act.put, List.setIfInBounds_toArray, List.set_cons_zero, List.set_cons_succ]
  refine wpAnyH_take (fuel := 13) (i := 2) (oi := ⟨some 23, _, _, _, _, _⟩) (v := .pointer (some ⟨b, 0, none⟩)) rfl (by kernel_rfl) (by kernel_rfl) (by kernel_rfl) (fun _ _ _ h => h) (Or.inl ⟨by rfl, ?_⟩) hh ?_
  · intro w' hw'
    go_simp
  simp only [Act.put, List.setIfInBounds_toArray, List.set_cons_zero, List.set_cons_succ]
  refine wpAnyH_take (fuel := 12) (i := 3) (oi := ⟨some 24, _, _, _, _, _⟩) (v := .pointer (some ⟨b, 0, none⟩)) rfl (by kernel_rfl) (by kernel_rfl) (by kernel_rfl) (fun _ _ _ h => h) (Or.inl ⟨by rfl, ?_⟩) hh ?_
  · intro w' hw'
    go_simp
  simp only [Act.put, List.setIfInBounds_toArray, List.set_cons_zero, List.set_cons_succ]
  refine wpAnyH_take (fuel := 11) (i := 4) (oi := ⟨some 25, _, _, _, _, _⟩) (v := .pointer (some ⟨b, 1, none⟩)) rfl (by kernel_rfl) (by kernel_rfl) (by kernel_rfl) (fun _ _ _ h => h) (Or.inl ⟨by rfl, ?_⟩) hh ?_
  · intro w' hw'
    go_simp
  simp only [Act.put, List.setIfInBounds_toArray, List.set_cons_zero, List.set_cons_succ]
  refine wpAnyH_take (fuel := 10) (i := 7) (oi := ⟨some 28, _, _, _, _, _⟩) (v := .int .i64 line) rfl (by kernel_rfl) (by kernel_rfl) (by kernel_rfl) (fun _ _ _ h => h) (Or.inl ⟨by rfl, ?_⟩) hh ?_
  · intro w' hw'
    go_simp
  simp only [Act.put, List.setIfInBounds_toArray, List.set_cons_zero, List.set_cons_succ]
  refine wpAnyH_take (fuel := 9) (i := 8) (oi := ⟨some 29, _, _, _, _, _⟩) (v := .agg (dcells d)) rfl (by kernel_rfl) (by kernel_rfl) (by kernel_rfl) (fun _ _ _ h => h) (Or.inl ⟨by rfl, ?_⟩) hh ?_
  · intro w' hw'
    go_simp
  simp only [Act.put, List.setIfInBounds_toArray, List.set_cons_zero, List.set_cons_succ]
  refine wpAnyH_take (fuel := 8) (i := 9) (oi := ⟨some 30, _, _, _, _, _⟩) (v := .agg (mcells (newE line d))) rfl (by kernel_rfl) (by kernel_rfl) (by kernel_rfl) (fun _ _ _ h => h) (Or.inl ⟨by rfl, ?_⟩) hh ?_
  · intro w' hw'
    go_simp
    exact ⟨rfl, rfl, rfl, rfl, rfl, rfl, rfl, rfl, rfl, rfl⟩
  simp only [Act.put, List.setIfInBounds_toArray, List.set_cons_zero, List.set_cons_succ]
  refine wpAnyH_ready (fuel := 7) (rs := [1, 5, 10]) (by kernel_rfl) (by simp) ?_
  refine AllReadyH.cons (o := ⟨some 22, _, _, _, _, _⟩) rfl (fun K hK => ?_) (AllReadyH.cons (o := ⟨some 26, _, _, _, _, _⟩) rfl (fun K hK => ?_) (AllReadyH.cons (o := ⟨some 31, _, _, _, _, _⟩) rfl (fun K hK => ?_) AllReadyH.nil))
  · skip
    go_simp
    obtain ⟨W1, hW⟩ : ∃ X, X = W0.alloc (.cells #[] 47) := ⟨_, rfl⟩
    rw [← hW]
    have hbb : Below W0.heap.size W0 W1 := by rw [hW]; exact (Below.refl _ _).alloc (Nat.le_refl _) _
    have BB1 := Lib.hid (bstep BB0.out hbb)
    have LB1 := Lib.hid (L2.out.step BB1.out)
    have HE1 := Lib.hid (show W1.ownsRow w2.heap.size 47 10 (.slice (some ⟨W0.heap.size, 0, none⟩) 0 0) 0 [] by rw [hW]; exact World.ownsRow_made W0 #[] 0 BB0.out.size (Nat.zero_le _) rfl)
    show K _ _
    refine hK.out _ _ LB1.out.mm (fun hh7 => ?_)
    clear hK K hh hbb hW
    refine wpAnyH_ready (fuel := 6) (rs := [5, 10]) (by kernel_rfl) (by simp) ?_
    refine AllReadyH.cons (o := ⟨some 26, _, _, _, _, _⟩) rfl (fun K hK => ?_) (AllReadyH.cons (o := ⟨some 31, _, _, _, _, _⟩) rfl (fun K hK => ?_) AllReadyH.nil)
    · skip
      have hc1 := HC.out _ BB1.out
      go_simp
      show K _ _
      refine hK.out _ _ LB1.out.mm (fun hh6 => ?_)
      clear hK K hh7 hc1
      refine wpAnyH_ready (fuel := 5) (rs := [6, 10]) (by kernel_rfl) (by simp) ?_
      refine AllReadyH.cons (o := ⟨some 27, _, _, _, _, _⟩) rfl (fun K hK => ?_) (AllReadyH.cons (o := ⟨some 31, _, _, _, _, _⟩) rfl (fun K hK => ?_) AllReadyH.nil)
      · skip
        refine step_append_sn rfl (.tmp 22) (.tmp 26) 42 rfl w2.heap.size 47 i0 (.agg (mcells m0)) 10 80 Try.underlying42 hi0 hz0 hz1 hz2 rfl (by decide) _ 0 [] rfl HE1.out p l.length cap (cellsOf mc l) rfl HLN.out (HPP.out _ BB1.out) (mcs_one l) (by unfold maxLen; omega) (by omega) BB1.out.size ?_
        intro v1 W2 hown1 hgr1
        have BB2 := Lib.hid (BB1.out.grown hgr1 BB1.out.size (fun k hk => (HE1.out.lt k hk).1))
        have LB2 := Lib.hid (L2.out.step BB2.out)
        have HO2 := Lib.hid (show W2.ownsRow w2.heap.size 47 10 v1 l.length (cellsOf mc l) by simpa using hown1)
        refine hK.out _ _ LB2.out.mm (fun hh5 => ?_)
        clear hK K hh6 hown1 hgr1
        simp only [Act.put, List.setIfInBounds_toArray, List.set_cons_zero, List.set_cons_succ]
        refine wpAnyH_ready (fuel := 4) (rs := [10]) (by kernel_rfl) (by simp) ?_
        refine AllReadyH.cons (o := ⟨some 31, _, _, _, _, _⟩) rfl (fun K hK => ?_) AllReadyH.nil
        go_simp
        obtain ⟨W3, hW⟩ : ∃ X, X = W2.alloc (.cells (mcells (newE line d)) 47) := ⟨_, rfl⟩
        rw [← hW]
        have hbb : Below W2.heap.size W2 W3 := by rw [hW]; exact (Below.refl _ _).alloc (Nat.le_refl _) _
        have BB3 := Lib.hid (bstep BB2.out hbb)
        have LB3 := Lib.hid (L2.out.step BB3.out)
        have HM3 := Lib.hid (show W3.heap[W2.heap.size]? = some (.cells (mcells (newE line d)) 47 (0, 0)) by rw [hW]; exact heap_alloc_new W2 _)
        have HO3 := Lib.hid (own_below HO2.out hbb)
        show K _ _
        refine hK.out _ _ LB3.out.mm (fun hh4 => ?_)
        clear hK K hh5 hbb hW
        refine wpAnyH_ready (fuel := 3) (rs := [11]) (by kernel_rfl) (by simp) ?_
        refine AllReadyH.cons (o := ⟨some 32, _, _, _, _, _⟩) rfl (fun K hK => ?_) AllReadyH.nil
        refine step_append_lies _ rfl (.tmp 27) (.tmp 31) 42 rfl w2.heap.size 47 i0 (.agg (mcells m0)) 10 80 Try.underlying42 hi0 hz0 hz1 hz2 rfl (by decide) v1 l.length (cellsOf mc l) rfl HO3.out ⟨W2.heap.size, 0, none⟩ 1 1 (mc (newE line d)) rfl rfl (World.news_of_block (cs := mcells (newE line d)) (t := 47) (fr := (0, 0)) HM3.out) (mc_one _) (by omega) (by unfold maxLen; omega) (by omega) BB3.out.size _ rfl ?_
        intro gg cap2 W4 hown2 hgr2 hat hlt2
        have BB4 := Lib.hid (BB3.out.grown hgr2 BB3.out.size (fun k hk => (HO3.out.lt k hk).1))
        have LB4 := Lib.hid (L2.out.step BB4.out)
        refine hK.out _ _ LB4.out.mm (fun hh2 => ?_)
        clear hK K hh4 hgr2 hat hlt2
        simp only [Act.put, List.setIfInBounds_toArray, List.set_cons_zero, List.set_cons_succ]
        refine wpAnyH_take (fuel := 2) (i := 12) (oi := ⟨some 33, _, _, _, _, _⟩) (v := .pointer (some ⟨b, 0, none⟩)) rfl (by kernel_rfl) (by kernel_rfl) (by kernel_rfl) (fun _ _ _ h => h) (Or.inl ⟨by rfl, ?_⟩) hh2 ?_
        · intro w' hw'
          go_simp
        simp only [Act.put, List.setIfInBounds_toArray, List.set_cons_zero, List.set_cons_succ]
        refine wpAnyH_take (fuel := 1) (i := 13) (oi := ⟨some 34, _, _, _, _, _⟩) (v := .pointer (some ⟨b, 1, none⟩)) rfl (by kernel_rfl) (by kernel_rfl) (by kernel_rfl) (fun _ _ _ h => h) (Or.inl ⟨by rfl, ?_⟩) hh2 ?_
        · intro w' hw'
          go_simp
        simp only [Act.put, List.setIfInBounds_toArray, List.set_cons_zero, List.set_cons_succ]
        refine wpAnyH_ready (fuel := 0) (rs := [14]) (by kernel_rfl) (by simp) ?_
        refine AllReadyH.cons (o := ⟨none, _, _, _, _, _⟩) rfl (fun K hK => ?_) AllReadyH.nil
        have hc1 := HC.out _ BB4.out
        have hf1 := HFZ.out _ BB4.out
        go_simp
        show K _ _
        refine hK.out _ _ (fun o => (World.cell?_of_block (heap_setCell_other _ _ _ _ HNE2.out)).trans (LB4.out.mm o)) (fun _ => ?_)
        clear hK K hh2 hc1 hf1
        refine wpAnyH_done (by kernel_rfl) ?_ _
        refine NoPanic.normal ?_
        have HG := Lib.hid (HT.out _ BB4.out _ hown2)
        clear hown2
        go_wp2
        go_ret
        exact ⟨rfl, HG.out⟩
      · skip
        go_simp
        obtain ⟨W2, hW⟩ : ∃ X, X = W1.alloc (.cells (mcells (newE line d)) 47) := ⟨_, rfl⟩
        rw [← hW]
        have hbb : Below W1.heap.size W1 W2 := by rw [hW]; exact (Below.refl _ _).alloc (Nat.le_refl _) _
        have BB2 := Lib.hid (bstep BB1.out hbb)
        have LB2 := Lib.hid (L2.out.step BB2.out)
        have HM2 := Lib.hid (show W2.heap[W1.heap.size]? = some (.cells (mcells (newE line d)) 47 (0, 0)) by rw [hW]; exact heap_alloc_new W1 _)
        have HE2 := Lib.hid (own_below HE1.out hbb)
        have hne : W1.heap.size ≠ W0.heap.size := by have := (HE1.out.lt W0.heap.size rfl).2; omega
        show K _ _
        refine hK.out _ _ LB2.out.mm (fun hh5 => ?_)
        clear hK K hh6 hbb hW
        refine wpAnyH_ready (fuel := 4) (rs := [6]) (by kernel_rfl) (by simp) ?_
        refine AllReadyH.cons (o := ⟨some 27, _, _, _, _, _⟩) rfl (fun K hK => ?_) AllReadyH.nil
        refine step_append_sn rfl (.tmp 22) (.tmp 26) 42 rfl w2.heap.size 47 i0 (.agg (mcells m0)) 10 80 Try.underlying42 hi0 hz0 hz1 hz2 rfl (by decide) _ 0 [] rfl HE2.out p l.length cap (cellsOf mc l) rfl HLN.out (HPP.out _ BB2.out) (mcs_one l) (by unfold maxLen; omega) (by omega) BB2.out.size ?_
        intro v1 W3 hown1 hgr1
        have BB3 := Lib.hid (BB2.out.grown hgr1 BB2.out.size (fun k hk => (HE2.out.lt k hk).1))
        have LB3 := Lib.hid (L2.out.step BB3.out)
        have HO3 := Lib.hid (show W3.ownsRow w2.heap.size 47 10 v1 l.length (cellsOf mc l) by simpa using hown1)
        have HM3 := Lib.hid ((hgr1.block W1.heap.size (lt_of_block HM2.out) (fun e => hne (Option.some.inj e))).trans HM2.out)
        refine hK.out _ _ LB3.out.mm (fun hh4 => ?_)
        clear hK K hh5 hown1 hgr1
        simp only [Act.put, List.setIfInBounds_toArray, List.set_cons_zero, List.set_cons_succ]
        refine wpAnyH_ready (fuel := 3) (rs := [11]) (by kernel_rfl) (by simp) ?_
        refine AllReadyH.cons (o := ⟨some 32, _, _, _, _, _⟩) rfl (fun K hK => ?_) AllReadyH.nil
        refine step_append_lies _ rfl (.tmp 27) (.tmp 31) 42 rfl w2.heap.size 47 i0 (.agg (mcells m0)) 10 80 Try.underlying42 hi0 hz0 hz1 hz2 rfl (by decide) v1 l.length (cellsOf mc l) rfl HO3.out ⟨W1.heap.size, 0, none⟩ 1 1 (mc (newE line d)) rfl rfl (World.news_of_block (cs := mcells (newE line d)) (t := 47) (fr := (0, 0)) HM3.out) (mc_one _) (by omega) (by unfold maxLen; omega) (by omega) BB3.out.size _ rfl ?_
        intro gg cap2 W4 hown2 hgr2 hat hlt2
        have BB4 := Lib.hid (BB3.out.grown hgr2 BB3.out.size (fun k hk => (HO3.out.lt k hk).1))
        have LB4 := Lib.hid (L2.out.step BB4.out)
        refine hK.out _ _ LB4.out.mm (fun hh2 => ?_)
        clear hK K hh4 hgr2 hat hlt2
        simp only [Act.put, List.setIfInBounds_toArray, List.set_cons_zero, List.set_cons_succ]
        refine wpAnyH_take (fuel := 2) (i := 12) (oi := ⟨some 33, _, _, _, _, _⟩) (v := .pointer (some ⟨b, 0, none⟩)) rfl (by kernel_rfl) (by kernel_rfl) (by kernel_rfl) (fun _ _ _ h => h) (Or.inl ⟨by rfl, ?_⟩) hh2 ?_
        · intro w' hw'
          go_simp
        simp only [Act.put, List.setIfInBounds_toArray, List.set_cons_zero, List.set_cons_succ]
        refine wpAnyH_take (fuel := 1) (i := 13) (oi := ⟨some 34, _, _, _, _, _⟩) (v := .pointer (some ⟨b, 1, none⟩)) rfl (by kernel_rfl) (by kernel_rfl) (by kernel_rfl) (fun _ _ _ h => h) (Or.inl ⟨by rfl, ?_⟩) hh2 ?_
        · intro w' hw'
          go_simp
        simp only [Act.put, List.setIfInBounds_toArray, List.set_cons_zero, List.set_cons_succ]
        refine wpAnyH_ready (fuel := 0) (rs := [14]) (by kernel_rfl) (by simp) ?_
        refine AllReadyH.cons (o := ⟨none, _, _, _, _, _⟩) rfl (fun K hK => ?_) AllReadyH.nil
        have hc1 := HC.out _ BB4.out
        have hf1 := HFZ.out _ BB4.out
        go_simp
        show K _ _
        refine hK.out _ _ (fun o => (World.cell?_of_block (heap_setCell_other _ _ _ _ HNE2.out)).trans (LB4.out.mm o)) (fun _ => ?_)
        clear hK K hh2 hc1 hf1
        refine wpAnyH_done (by kernel_rfl) ?_ _
        refine NoPanic.normal ?_
        have HG := Lib.hid (HT.out _ BB4.out _ hown2)
        clear hown2
        go_wp2
        go_ret
        exact ⟨rfl, HG.out⟩
    · skip
      go_simp
      obtain ⟨W2, hW⟩ : ∃ X, X = W1.alloc (.cells (mcells (newE line d)) 47) := ⟨_, rfl⟩
      rw [← hW]
      have hbb : Below W1.heap.size W1 W2 := by rw [hW]; exact (Below.refl _ _).alloc (Nat.le_refl _) _
      have BB2 := Lib.hid (bstep BB1.out hbb)
      have LB2 := Lib.hid (L2.out.step BB2.out)
      have HM2 := Lib.hid (show W2.heap[W1.heap.size]? = some (.cells (mcells (newE line d)) 47 (0, 0)) by rw [hW]; exact heap_alloc_new W1 _)
      have HE2 := Lib.hid (own_below HE1.out hbb)
      have hne : W1.heap.size ≠ W0.heap.size := by have := (HE1.out.lt W0.heap.size rfl).2; omega
      show K _ _
      refine hK.out _ _ LB2.out.mm (fun hh6 => ?_)
      clear hK K hh7 hbb hW
      refine wpAnyH_ready (fuel := 5) (rs := [5]) (by kernel_rfl) (by simp) ?_
      refine AllReadyH.cons (o := ⟨some 26, _, _, _, _, _⟩) rfl (fun K hK => ?_) AllReadyH.nil
      have hc1 := HC.out _ BB2.out
      go_simp
      show K _ _
      refine hK.out _ _ LB2.out.mm (fun hh5 => ?_)
      clear hK K hh6 hc1
      refine wpAnyH_ready (fuel := 4) (rs := [6]) (by kernel_rfl) (by simp) ?_
      refine AllReadyH.cons (o := ⟨some 27, _, _, _, _, _⟩) rfl (fun K hK => ?_) AllReadyH.nil
      refine step_append_sn rfl (.tmp 22) (.tmp 26) 42 rfl w2.heap.size 47 i0 (.agg (mcells m0)) 10 80 Try.underlying42 hi0 hz0 hz1 hz2 rfl (by decide) _ 0 [] rfl HE2.out p l.length cap (cellsOf mc l) rfl HLN.out (HPP.out _ BB2.out) (mcs_one l) (by unfold maxLen; omega) (by omega) BB2.out.size ?_
      intro v1 W3 hown1 hgr1
      have BB3 := Lib.hid (BB2.out.grown hgr1 BB2.out.size (fun k hk => (HE2.out.lt k hk).1))
      have LB3 := Lib.hid (L2.out.step BB3.out)
      have HO3 := Lib.hid (show W3.ownsRow w2.heap.size 47 10 v1 l.length (cellsOf mc l) by simpa using hown1)
      have HM3 := Lib.hid ((hgr1.block W1.heap.size (lt_of_block HM2.out) (fun e => hne (Option.some.inj e))).trans HM2.out)
      refine hK.out _ _ LB3.out.mm (fun hh4 => ?_)
      clear hK K hh5 hown1 hgr1
      simp only [Act.put, List.setIfInBounds_toArray, List.set_cons_zero, List.set_cons_succ]
      refine wpAnyH_ready (fuel := 3) (rs := [11]) (by kernel_rfl) (by simp) ?_
      refine AllReadyH.cons (o := ⟨some 32, _, _, _, _, _⟩) rfl (fun K hK => ?_) AllReadyH.nil
      refine step_append_lies _ rfl (.tmp 27) (.tmp 31) 42 rfl w2.heap.size 47 i0 (.agg (mcells m0)) 10 80 Try.underlying42 hi0 hz0 hz1 hz2 rfl (by decide) v1 l.length (cellsOf mc l) rfl HO3.out ⟨W1.heap.size, 0, none⟩ 1 1 (mc (newE line d)) rfl rfl (World.news_of_block (cs := mcells (newE line d)) (t := 47) (fr := (0, 0)) HM3.out) (mc_one _) (by omega) (by unfold maxLen; omega) (by omega) BB3.out.size _ rfl ?_
      intro gg cap2 W4 hown2 hgr2 hat hlt2
      have BB4 := Lib.hid (BB3.out.grown hgr2 BB3.out.size (fun k hk => (HO3.out.lt k hk).1))
      have LB4 := Lib.hid (L2.out.step BB4.out)
      refine hK.out _ _ LB4.out.mm (fun hh2 => ?_)
      clear hK K hh4 hgr2 hat hlt2
      simp only [Act.put, List.setIfInBounds_toArray, List.set_cons_zero, List.set_cons_succ]
      refine wpAnyH_take (fuel := 2) (i := 12) (oi := ⟨some 33, _, _, _, _, _⟩) (v := .pointer (some ⟨b, 0, none⟩)) rfl (by kernel_rfl) (by kernel_rfl) (by kernel_rfl) (fun _ _ _ h => h) (Or.inl ⟨by rfl, ?_⟩) hh2 ?_
      · intro w' hw'
        go_simp
      simp only [Act.put, List.setIfInBounds_toArray, List.set_cons_zero, List.set_cons_succ]
      refine wpAnyH_take (fuel := 1) (i := 13) (oi := ⟨some 34, _, _, _, _, _⟩) (v := .pointer (some ⟨b, 1, none⟩)) rfl (by kernel_rfl) (by kernel_rfl) (by kernel_rfl) (fun _ _ _ h => h) (Or.inl ⟨by rfl, ?_⟩) hh2 ?_
      · intro w' hw'
        go_simp
      simp only [Act.put, List.setIfInBounds_toArray, List.set_cons_zero, List.set_cons_succ]
      refine wpAnyH_ready (fuel := 0) (rs := [14]) (by kernel_rfl) (by simp) ?_
      refine AllReadyH.cons (o := ⟨none, _, _, _, _, _⟩) rfl (fun K hK => ?_) AllReadyH.nil
      have hc1 := HC.out _ BB4.out
      have hf1 := HFZ.out _ BB4.out
      go_simp
      show K _ _
      refine hK.out _ _ (fun o => (World.cell?_of_block (heap_setCell_other _ _ _ _ HNE2.out)).trans (LB4.out.mm o)) (fun _ => ?_)
      clear hK K hh2 hc1 hf1
      refine wpAnyH_done (by kernel_rfl) ?_ _
      refine NoPanic.normal ?_
      have HG := Lib.hid (HT.out _ BB4.out _ hown2)
      clear hown2
      go_wp2
      go_ret
      exact ⟨rfl, HG.out⟩
  · skip
    have hc1 := HC.out _ BB0.out
    go_simp
    show K _ _
    refine hK.out _ _ LB0.out.mm (fun hh7 => ?_)
    clear hK K hh hc1
    refine wpAnyH_ready (fuel := 6) (rs := [1, 10]) (by kernel_rfl) (by simp) ?_
    refine AllReadyH.cons (o := ⟨some 22, _, _, _, _, _⟩) rfl (fun K hK => ?_) (AllReadyH.cons (o := ⟨some 31, _, _, _, _, _⟩) rfl (fun K hK => ?_) AllReadyH.nil)
    · skip
      go_simp
      obtain ⟨W1, hW⟩ : ∃ X, X = W0.alloc (.cells #[] 47) := ⟨_, rfl⟩
      rw [← hW]
      have hbb : Below W0.heap.size W0 W1 := by rw [hW]; exact (Below.refl _ _).alloc (Nat.le_refl _) _
      have BB1 := Lib.hid (bstep BB0.out hbb)
      have LB1 := Lib.hid (L2.out.step BB1.out)
      have HE1 := Lib.hid (show W1.ownsRow w2.heap.size 47 10 (.slice (some ⟨W0.heap.size, 0, none⟩) 0 0) 0 [] by rw [hW]; exact World.ownsRow_made W0 #[] 0 BB0.out.size (Nat.zero_le _) rfl)
      show K _ _
      refine hK.out _ _ LB1.out.mm (fun hh6 => ?_)
      clear hK K hh7 hbb hW
      refine wpAnyH_ready (fuel := 5) (rs := [6, 10]) (by kernel_rfl) (by simp) ?_
      refine AllReadyH.cons (o := ⟨some 27, _, _, _, _, _⟩) rfl (fun K hK => ?_) (AllReadyH.cons (o := ⟨some 31, _, _, _, _, _⟩) rfl (fun K hK => ?_) AllReadyH.nil)
      · skip
        refine step_append_sn rfl (.tmp 22) (.tmp 26) 42 rfl w2.heap.size 47 i0 (.agg (mcells m0)) 10 80 Try.underlying42 hi0 hz0 hz1 hz2 rfl (by decide) _ 0 [] rfl HE1.out p l.length cap (cellsOf mc l) rfl HLN.out (HPP.out _ BB1.out) (mcs_one l) (by unfold maxLen; omega) (by omega) BB1.out.size ?_
        intro v1 W2 hown1 hgr1
        have BB2 := Lib.hid (BB1.out.grown hgr1 BB1.out.size (fun k hk => (HE1.out.lt k hk).1))
        have LB2 := Lib.hid (L2.out.step BB2.out)
        have HO2 := Lib.hid (show W2.ownsRow w2.heap.size 47 10 v1 l.length (cellsOf mc l) by simpa using hown1)
        refine hK.out _ _ LB2.out.mm (fun hh5 => ?_)
        clear hK K hh6 hown1 hgr1
        simp only [Act.put, List.setIfInBounds_toArray, List.set_cons_zero, List.set_cons_succ]
        refine wpAnyH_ready (fuel := 4) (rs := [10]) (by kernel_rfl) (by simp) ?_
        refine AllReadyH.cons (o := ⟨some 31, _, _, _, _, _⟩) rfl (fun K hK => ?_) AllReadyH.nil
        go_simp
        obtain ⟨W3, hW⟩ : ∃ X, X = W2.alloc (.cells (mcells (newE line d)) 47) := ⟨_, rfl⟩
        rw [← hW]
        have hbb : Below W2.heap.size W2 W3 := by rw [hW]; exact (Below.refl _ _).alloc (Nat.le_refl _) _
        have BB3 := Lib.hid (bstep BB2.out hbb)
        have LB3 := Lib.hid (L2.out.step BB3.out)
        have HM3 := Lib.hid (show W3.heap[W2.heap.size]? = some (.cells (mcells (newE line d)) 47 (0, 0)) by rw [hW]; exact heap_alloc_new W2 _)
        have HO3 := Lib.hid (own_below HO2.out hbb)
        show K _ _
        refine hK.out _ _ LB3.out.mm (fun hh4 => ?_)
        clear hK K hh5 hbb hW
        refine wpAnyH_ready (fuel := 3) (rs := [11]) (by kernel_rfl) (by simp) ?_
        refine AllReadyH.cons (o := ⟨some 32, _, _, _, _, _⟩) rfl (fun K hK => ?_) AllReadyH.nil
        refine step_append_lies _ rfl (.tmp 27) (.tmp 31) 42 rfl w2.heap.size 47 i0 (.agg (mcells m0)) 10 80 Try.underlying42 hi0 hz0 hz1 hz2 rfl (by decide) v1 l.length (cellsOf mc l) rfl HO3.out ⟨W2.heap.size, 0, none⟩ 1 1 (mc (newE line d)) rfl rfl (World.news_of_block (cs := mcells (newE line d)) (t := 47) (fr := (0, 0)) HM3.out) (mc_one _) (by omega) (by unfold maxLen; omega) (by omega) BB3.out.size _ rfl ?_
        intro gg cap2 W4 hown2 hgr2 hat hlt2
        have BB4 := Lib.hid (BB3.out.grown hgr2 BB3.out.size (fun k hk => (HO3.out.lt k hk).1))
        have LB4 := Lib.hid (L2.out.step BB4.out)
        refine hK.out _ _ LB4.out.mm (fun hh2 => ?_)
        clear hK K hh4 hgr2 hat hlt2
        simp only [Act.put, List.setIfInBounds_toArray, List.set_cons_zero, List.set_cons_succ]
        refine wpAnyH_take (fuel := 2) (i := 12) (oi := ⟨some 33, _, _, _, _, _⟩) (v := .pointer (some ⟨b, 0, none⟩)) rfl (by kernel_rfl) (by kernel_rfl) (by kernel_rfl) (fun _ _ _ h => h) (Or.inl ⟨by rfl, ?_⟩) hh2 ?_
        · intro w' hw'
          go_simp
        simp only [Act.put, List.setIfInBounds_toArray, List.set_cons_zero, List.set_cons_succ]
        refine wpAnyH_take (fuel := 1) (i := 13) (oi := ⟨some 34, _, _, _, _, _⟩) (v := .pointer (some ⟨b, 1, none⟩)) rfl (by kernel_rfl) (by kernel_rfl) (by kernel_rfl) (fun _ _ _ h => h) (Or.inl ⟨by rfl, ?_⟩) hh2 ?_
        · intro w' hw'
          go_simp
        simp only [Act.put, List.setIfInBounds_toArray, List.set_cons_zero, List.set_cons_succ]
        refine wpAnyH_ready (fuel := 0) (rs := [14]) (by kernel_rfl) (by simp) ?_
        refine AllReadyH.cons (o := ⟨none, _, _, _, _, _⟩) rfl (fun K hK => ?_) AllReadyH.nil
        have hc1 := HC.out _ BB4.out
        have hf1 := HFZ.out _ BB4.out
        go_simp
        show K _ _
        refine hK.out _ _ (fun o => (World.cell?_of_block (heap_setCell_other _ _ _ _ HNE2.out)).trans (LB4.out.mm o)) (fun _ => ?_)
        clear hK K hh2 hc1 hf1
        refine wpAnyH_done (by kernel_rfl) ?_ _
        refine NoPanic.normal ?_
        have HG := Lib.hid (HT.out _ BB4.out _ hown2)
        clear hown2
        go_wp2
        go_ret
        exact ⟨rfl, HG.out⟩
      · skip
        go_simp
        obtain ⟨W2, hW⟩ : ∃ X, X = W1.alloc (.cells (mcells (newE line d)) 47) := ⟨_, rfl⟩
        rw [← hW]
        have hbb : Below W1.heap.size W1 W2 := by rw [hW]; exact (Below.refl _ _).alloc (Nat.le_refl _) _
        have BB2 := Lib.hid (bstep BB1.out hbb)
        have LB2 := Lib.hid (L2.out.step BB2.out)
        have HM2 := Lib.hid (show W2.heap[W1.heap.size]? = some (.cells (mcells (newE line d)) 47 (0, 0)) by rw [hW]; exact heap_alloc_new W1 _)
        have HE2 := Lib.hid (own_below HE1.out hbb)
        have hne : W1.heap.size ≠ W0.heap.size := by have := (HE1.out.lt W0.heap.size rfl).2; omega
        show K _ _
        refine hK.out _ _ LB2.out.mm (fun hh5 => ?_)
        clear hK K hh6 hbb hW
        refine wpAnyH_ready (fuel := 4) (rs := [6]) (by kernel_rfl) (by simp) ?_
        refine AllReadyH.cons (o := ⟨some 27, _, _, _, _, _⟩) rfl (fun K hK => ?_) AllReadyH.nil
        refine step_append_sn rfl (.tmp 22) (.tmp 26) 42 rfl w2.heap.size 47 i0 (.agg (mcells m0)) 10 80 Try.underlying42 hi0 hz0 hz1 hz2 rfl (by decide) _ 0 [] rfl HE2.out p l.length cap (cellsOf mc l) rfl HLN.out (HPP.out _ BB2.out) (mcs_one l) (by unfold maxLen; omega) (by omega) BB2.out.size ?_
        intro v1 W3 hown1 hgr1
        have BB3 := Lib.hid (BB2.out.grown hgr1 BB2.out.size (fun k hk => (HE2.out.lt k hk).1))
        have LB3 := Lib.hid (L2.out.step BB3.out)
        have HO3 := Lib.hid (show W3.ownsRow w2.heap.size 47 10 v1 l.length (cellsOf mc l) by simpa using hown1)
        have HM3 := Lib.hid ((hgr1.block W1.heap.size (lt_of_block HM2.out) (fun e => hne (Option.some.inj e))).trans HM2.out)
        refine hK.out _ _ LB3.out.mm (fun hh4 => ?_)
        clear hK K hh5 hown1 hgr1
        simp only [Act.put, List.setIfInBounds_toArray, List.set_cons_zero, List.set_cons_succ]
        refine wpAnyH_ready (fuel := 3) (rs := [11]) (by kernel_rfl) (by simp) ?_
        refine AllReadyH.cons (o := ⟨some 32, _, _, _, _, _⟩) rfl (fun K hK => ?_) AllReadyH.nil
        refine step_append_lies _ rfl (.tmp 27) (.tmp 31) 42 rfl w2.heap.size 47 i0 (.agg (mcells m0)) 10 80 Try.underlying42 hi0 hz0 hz1 hz2 rfl (by decide) v1 l.length (cellsOf mc l) rfl HO3.out ⟨W1.heap.size, 0, none⟩ 1 1 (mc (newE line d)) rfl rfl (World.news_of_block (cs := mcells (newE line d)) (t := 47) (fr := (0, 0)) HM3.out) (mc_one _) (by omega) (by unfold maxLen; omega) (by omega) BB3.out.size _ rfl ?_
        intro gg cap2 W4 hown2 hgr2 hat hlt2
        have BB4 := Lib.hid (BB3.out.grown hgr2 BB3.out.size (fun k hk => (HO3.out.lt k hk).1))
        have LB4 := Lib.hid (L2.out.step BB4.out)
        refine hK.out _ _ LB4.out.mm (fun hh2 => ?_)
        clear hK K hh4 hgr2 hat hlt2
        simp only [Act.put, List.setIfInBounds_toArray, List.set_cons_zero, List.set_cons_succ]
        refine wpAnyH_take (fuel := 2) (i := 12) (oi := ⟨some 33, _, _, _, _, _⟩) (v := .pointer (some ⟨b, 0, none⟩)) rfl (by kernel_rfl) (by kernel_rfl) (by kernel_rfl) (fun _ _ _ h => h) (Or.inl ⟨by rfl, ?_⟩) hh2 ?_
        · intro w' hw'
          go_simp
        simp only [Act.put, List.setIfInBounds_toArray, List.set_cons_zero, List.set_cons_succ]
        refine wpAnyH_take (fuel := 1) (i := 13) (oi := ⟨some 34, _, _, _, _, _⟩) (v := .pointer (some ⟨b, 1, none⟩)) rfl (by kernel_rfl) (by kernel_rfl) (by kernel_rfl) (fun _ _ _ h => h) (Or.inl ⟨by rfl, ?_⟩) hh2 ?_
        · intro w' hw'
          go_simp
        simp only [Act.put, List.setIfInBounds_toArray, List.set_cons_zero, List.set_cons_succ]
        refine wpAnyH_ready (fuel := 0) (rs := [14]) (by kernel_rfl) (by simp) ?_
        refine AllReadyH.cons (o := ⟨none, _, _, _, _, _⟩) rfl (fun K hK => ?_) AllReadyH.nil
        have hc1 := HC.out _ BB4.out
        have hf1 := HFZ.out _ BB4.out
        go_simp
        show K _ _
        refine hK.out _ _ (fun o => (World.cell?_of_block (heap_setCell_other _ _ _ _ HNE2.out)).trans (LB4.out.mm o)) (fun _ => ?_)
        clear hK K hh2 hc1 hf1
        refine wpAnyH_done (by kernel_rfl) ?_ _
        refine NoPanic.normal ?_
        have HG := Lib.hid (HT.out _ BB4.out _ hown2)
        clear hown2
        go_wp2
        go_ret
        exact ⟨rfl, HG.out⟩
    · skip
      go_simp
      obtain ⟨W1, hW⟩ : ∃ X, X = W0.alloc (.cells (mcells (newE line d)) 47) := ⟨_, rfl⟩
      rw [← hW]
      have hbb : Below W0.heap.size W0 W1 := by rw [hW]; exact (Below.refl _ _).alloc (Nat.le_refl _) _
      have BB1 := Lib.hid (bstep BB0.out hbb)
      have LB1 := Lib.hid (L2.out.step BB1.out)
      have HM1 := Lib.hid (show W1.heap[W0.heap.size]? = some (.cells (mcells (newE line d)) 47 (0, 0)) by rw [hW]; exact heap_alloc_new W0 _)
      show K _ _
      refine hK.out _ _ LB1.out.mm (fun hh6 => ?_)
      clear hK K hh7 hbb hW
      refine wpAnyH_ready (fuel := 5) (rs := [1]) (by kernel_rfl) (by simp) ?_
      refine AllReadyH.cons (o := ⟨some 22, _, _, _, _, _⟩) rfl (fun K hK => ?_) AllReadyH.nil
      go_simp
      obtain ⟨W2, hW⟩ : ∃ X, X = W1.alloc (.cells #[] 47) := ⟨_, rfl⟩
      rw [← hW]
      have hbb : Below W1.heap.size W1 W2 := by rw [hW]; exact (Below.refl _ _).alloc (Nat.le_refl _) _
      have BB2 := Lib.hid (bstep BB1.out hbb)
      have LB2 := Lib.hid (L2.out.step BB2.out)
      have HE2 := Lib.hid (show W2.ownsRow w2.heap.size 47 10 (.slice (some ⟨W1.heap.size, 0, none⟩) 0 0) 0 [] by rw [hW]; exact World.ownsRow_made W1 #[] 0 BB1.out.size (Nat.zero_le _) rfl)
      have HM2 := Lib.hid ((hbb.block _ (lt_of_block HM1.out)).trans HM1.out)
      have hne : W0.heap.size ≠ W1.heap.size := by have := lt_of_block HM1.out; omega
      show K _ _
      refine hK.out _ _ LB2.out.mm (fun hh5 => ?_)
      clear hK K hh6 hbb hW
      refine wpAnyH_ready (fuel := 4) (rs := [6]) (by kernel_rfl) (by simp) ?_
      refine AllReadyH.cons (o := ⟨some 27, _, _, _, _, _⟩) rfl (fun K hK => ?_) AllReadyH.nil
      refine step_append_sn rfl (.tmp 22) (.tmp 26) 42 rfl w2.heap.size 47 i0 (.agg (mcells m0)) 10 80 Try.underlying42 hi0 hz0 hz1 hz2 rfl (by decide) _ 0 [] rfl HE2.out p l.length cap (cellsOf mc l) rfl HLN.out (HPP.out _ BB2.out) (mcs_one l) (by unfold maxLen; omega) (by omega) BB2.out.size ?_
      intro v1 W3 hown1 hgr1
      have BB3 := Lib.hid (BB2.out.grown hgr1 BB2.out.size (fun k hk => (HE2.out.lt k hk).1))
      have LB3 := Lib.hid (L2.out.step BB3.out)
      have HO3 := Lib.hid (show W3.ownsRow w2.heap.size 47 10 v1 l.length (cellsOf mc l) by simpa using hown1)
      have HM3 := Lib.hid ((hgr1.block W0.heap.size (lt_of_block HM2.out) (fun e => hne (Option.some.inj e))).trans HM2.out)
      refine hK.out _ _ LB3.out.mm (fun hh4 => ?_)
      clear hK K hh5 hown1 hgr1
      simp only [Act.put, List.setIfInBounds_toArray, List.set_cons_zero, List.set_cons_succ]
      refine wpAnyH_ready (fuel := 3) (rs := [11]) (by kernel_rfl) (by simp) ?_
      refine AllReadyH.cons (o := ⟨some 32, _, _, _, _, _⟩) rfl (fun K hK => ?_) AllReadyH.nil
      refine step_append_lies _ rfl (.tmp 27) (.tmp 31) 42 rfl w2.heap.size 47 i0 (.agg (mcells m0)) 10 80 Try.underlying42 hi0 hz0 hz1 hz2 rfl (by decide) v1 l.length (cellsOf mc l) rfl HO3.out ⟨W0.heap.size, 0, none⟩ 1 1 (mc (newE line d)) rfl rfl (World.news_of_block (cs := mcells (newE line d)) (t := 47) (fr := (0, 0)) HM3.out) (mc_one _) (by omega) (by unfold maxLen; omega) (by omega) BB3.out.size _ rfl ?_
      intro gg cap2 W4 hown2 hgr2 hat hlt2
      have BB4 := Lib.hid (BB3.out.grown hgr2 BB3.out.size (fun k hk => (HO3.out.lt k hk).1))
      have LB4 := Lib.hid (L2.out.step BB4.out)
      refine hK.out _ _ LB4.out.mm (fun hh2 => ?_)
      clear hK K hh4 hgr2 hat hlt2
      simp only [Act.put, List.setIfInBounds_toArray, List.set_cons_zero, List.set_cons_succ]
      refine wpAnyH_take (fuel := 2) (i := 12) (oi := ⟨some 33, _, _, _, _, _⟩) (v := .pointer (some ⟨b, 0, none⟩)) rfl (by kernel_rfl) (by kernel_rfl) (by kernel_rfl) (fun _ _ _ h => h) (Or.inl ⟨by rfl, ?_⟩) hh2 ?_
      · intro w' hw'
        go_simp
      simp only [Act.put, List.setIfInBounds_toArray, List.set_cons_zero, List.set_cons_succ]
      refine wpAnyH_take (fuel := 1) (i := 13) (oi := ⟨some 34, _, _, _, _, _⟩) (v := .pointer (some ⟨b, 1, none⟩)) rfl (by kernel_rfl) (by kernel_rfl) (by kernel_rfl) (fun _ _ _ h => h) (Or.inl ⟨by rfl, ?_⟩) hh2 ?_
      · intro w' hw'
        go_simp
      simp only [Act.put, List.setIfInBounds_toArray, List.set_cons_zero, List.set_cons_succ]
      refine wpAnyH_ready (fuel := 0) (rs := [14]) (by kernel_rfl) (by simp) ?_
      refine AllReadyH.cons (o := ⟨none, _, _, _, _, _⟩) rfl (fun K hK => ?_) AllReadyH.nil
      have hc1 := HC.out _ BB4.out
      have hf1 := HFZ.out _ BB4.out
      go_simp
      show K _ _
      refine hK.out _ _ (fun o => (World.cell?_of_block (heap_setCell_other _ _ _ _ HNE2.out)).trans (LB4.out.mm o)) (fun _ => ?_)
      clear hK K hh2 hc1 hf1
      refine wpAnyH_done (by kernel_rfl) ?_ _
      refine NoPanic.normal ?_
      have HG := Lib.hid (HT.out _ BB4.out _ hown2)
      clear hown2
      go_wp2
      go_ret
      exact ⟨rfl, HG.out⟩
  · skip
    go_simp
    obtain ⟨W1, hW⟩ : ∃ X, X = W0.alloc (.cells (mcells (newE line d)) 47) := ⟨_, rfl⟩
    rw [← hW]
    have hbb : Below W0.heap.size W0 W1 := by rw [hW]; exact (Below.refl _ _).alloc (Nat.le_refl _) _
    have BB1 := Lib.hid (bstep BB0.out hbb)
    have LB1 := Lib.hid (L2.out.step BB1.out)
    have HM1 := Lib.hid (show W1.heap[W0.heap.size]? = some (.cells (mcells (newE line d)) 47 (0, 0)) by rw [hW]; exact heap_alloc_new W0 _)
    show K _ _
    refine hK.out _ _ LB1.out.mm (fun hh7 => ?_)
    clear hK K hh hbb hW
    refine wpAnyH_ready (fuel := 6) (rs := [1, 5]) (by kernel_rfl) (by simp) ?_
    refine AllReadyH.cons (o := ⟨some 22, _, _, _, _, _⟩) rfl (fun K hK => ?_) (AllReadyH.cons (o := ⟨some 26, _, _, _, _, _⟩) rfl (fun K hK => ?_) AllReadyH.nil)
    · skip
      go_simp
      obtain ⟨W2, hW⟩ : ∃ X, X = W1.alloc (.cells #[] 47) := ⟨_, rfl⟩
      rw [← hW]
      have hbb : Below W1.heap.size W1 W2 := by rw [hW]; exact (Below.refl _ _).alloc (Nat.le_refl _) _
      have BB2 := Lib.hid (bstep BB1.out hbb)
      have LB2 := Lib.hid (L2.out.step BB2.out)
      have HE2 := Lib.hid (show W2.ownsRow w2.heap.size 47 10 (.slice (some ⟨W1.heap.size, 0, none⟩) 0 0) 0 [] by rw [hW]; exact World.ownsRow_made W1 #[] 0 BB1.out.size (Nat.zero_le _) rfl)
      have HM2 := Lib.hid ((hbb.block _ (lt_of_block HM1.out)).trans HM1.out)
      have hne : W0.heap.size ≠ W1.heap.size := by have := lt_of_block HM1.out; omega
      show K _ _
      refine hK.out _ _ LB2.out.mm (fun hh6 => ?_)
      clear hK K hh7 hbb hW
      refine wpAnyH_ready (fuel := 5) (rs := [5]) (by kernel_rfl) (by simp) ?_
      refine AllReadyH.cons (o := ⟨some 26, _, _, _, _, _⟩) rfl (fun K hK => ?_) AllReadyH.nil
      have hc1 := HC.out _ BB2.out
      go_simp
      show K _ _
      refine hK.out _ _ LB2.out.mm (fun hh5 => ?_)
      clear hK K hh6 hc1
      refine wpAnyH_ready (fuel := 4) (rs := [6]) (by kernel_rfl) (by simp) ?_
      refine AllReadyH.cons (o := ⟨some 27, _, _, _, _, _⟩) rfl (fun K hK => ?_) AllReadyH.nil
      refine step_append_sn rfl (.tmp 22) (.tmp 26) 42 rfl w2.heap.size 47 i0 (.agg (mcells m0)) 10 80 Try.underlying42 hi0 hz0 hz1 hz2 rfl (by decide) _ 0 [] rfl HE2.out p l.length cap (cellsOf mc l) rfl HLN.out (HPP.out _ BB2.out) (mcs_one l) (by unfold maxLen; omega) (by omega) BB2.out.size ?_
      intro v1 W3 hown1 hgr1
      have BB3 := Lib.hid (BB2.out.grown hgr1 BB2.out.size (fun k hk => (HE2.out.lt k hk).1))
      have LB3 := Lib.hid (L2.out.step BB3.out)
      have HO3 := Lib.hid (show W3.ownsRow w2.heap.size 47 10 v1 l.length (cellsOf mc l) by simpa using hown1)
      have HM3 := Lib.hid ((hgr1.block W0.heap.size (lt_of_block HM2.out) (fun e => hne (Option.some.inj e))).trans HM2.out)
      refine hK.out _ _ LB3.out.mm (fun hh4 => ?_)
      clear hK K hh5 hown1 hgr1
      simp only [Act.put, List.setIfInBounds_toArray, List.set_cons_zero, List.set_cons_succ]
      refine wpAnyH_ready (fuel := 3) (rs := [11]) (by kernel_rfl) (by simp) ?_
      refine AllReadyH.cons (o := ⟨some 32, _, _, _, _, _⟩) rfl (fun K hK => ?_) AllReadyH.nil
      refine step_append_lies _ rfl (.tmp 27) (.tmp 31) 42 rfl w2.heap.size 47 i0 (.agg (mcells m0)) 10 80 Try.underlying42 hi0 hz0 hz1 hz2 rfl (by decide) v1 l.length (cellsOf mc l) rfl HO3.out ⟨W0.heap.size, 0, none⟩ 1 1 (mc (newE line d)) rfl rfl (World.news_of_block (cs := mcells (newE line d)) (t := 47) (fr := (0, 0)) HM3.out) (mc_one _) (by omega) (by unfold maxLen; omega) (by omega) BB3.out.size _ rfl ?_
      intro gg cap2 W4 hown2 hgr2 hat hlt2
      have BB4 := Lib.hid (BB3.out.grown hgr2 BB3.out.size (fun k hk => (HO3.out.lt k hk).1))
      have LB4 := Lib.hid (L2.out.step BB4.out)
      refine hK.out _ _ LB4.out.mm (fun hh2 => ?_)
      clear hK K hh4 hgr2 hat hlt2
      simp only [Act.put, List.setIfInBounds_toArray, List.set_cons_zero, List.set_cons_succ]
      refine wpAnyH_take (fuel := 2) (i := 12) (oi := ⟨some 33, _, _, _, _, _⟩) (v := .pointer (some ⟨b, 0, none⟩)) rfl (by kernel_rfl) (by kernel_rfl) (by kernel_rfl) (fun _ _ _ h => h) (Or.inl ⟨by rfl, ?_⟩) hh2 ?_
      · intro w' hw'
        go_simp
      simp only [Act.put, List.setIfInBounds_toArray, List.set_cons_zero, List.set_cons_succ]
      refine wpAnyH_take (fuel := 1) (i := 13) (oi := ⟨some 34, _, _, _, _, _⟩) (v := .pointer (some ⟨b, 1, none⟩)) rfl (by kernel_rfl) (by kernel_rfl) (by kernel_rfl) (fun _ _ _ h => h) (Or.inl ⟨by rfl, ?_⟩) hh2 ?_
      · intro w' hw'
        go_simp
      simp only [Act.put, List.setIfInBounds_toArray, List.set_cons_zero, List.set_cons_succ]
      refine wpAnyH_ready (fuel := 0) (rs := [14]) (by kernel_rfl) (by simp) ?_
      refine AllReadyH.cons (o := ⟨none, _, _, _, _, _⟩) rfl (fun K hK => ?_) AllReadyH.nil
      have hc1 := HC.out _ BB4.out
      have hf1 := HFZ.out _ BB4.out
      go_simp
      show K _ _
      refine hK.out _ _ (fun o => (World.cell?_of_block (heap_setCell_other _ _ _ _ HNE2.out)).trans (LB4.out.mm o)) (fun _ => ?_)
      clear hK K hh2 hc1 hf1
      refine wpAnyH_done (by kernel_rfl) ?_ _
      refine NoPanic.normal ?_
      have HG := Lib.hid (HT.out _ BB4.out _ hown2)
      clear hown2
      go_wp2
      go_ret
      exact ⟨rfl, HG.out⟩
    · skip
      have hc1 := HC.out _ BB1.out
      go_simp
      show K _ _
      refine hK.out _ _ LB1.out.mm (fun hh6 => ?_)
      clear hK K hh7 hc1
      refine wpAnyH_ready (fuel := 5) (rs := [1]) (by kernel_rfl) (by simp) ?_
      refine AllReadyH.cons (o := ⟨some 22, _, _, _, _, _⟩) rfl (fun K hK => ?_) AllReadyH.nil
      go_simp
      obtain ⟨W2, hW⟩ : ∃ X, X = W1.alloc (.cells #[] 47) := ⟨_, rfl⟩
      rw [← hW]
      have hbb : Below W1.heap.size W1 W2 := by rw [hW]; exact (Below.refl _ _).alloc (Nat.le_refl _) _
      have BB2 := Lib.hid (bstep BB1.out hbb)
      have LB2 := Lib.hid (L2.out.step BB2.out)
      have HE2 := Lib.hid (show W2.ownsRow w2.heap.size 47 10 (.slice (some ⟨W1.heap.size, 0, none⟩) 0 0) 0 [] by rw [hW]; exact World.ownsRow_made W1 #[] 0 BB1.out.size (Nat.zero_le _) rfl)
      have HM2 := Lib.hid ((hbb.block _ (lt_of_block HM1.out)).trans HM1.out)
      have hne : W0.heap.size ≠ W1.heap.size := by have := lt_of_block HM1.out; omega
      show K _ _
      refine hK.out _ _ LB2.out.mm (fun hh5 => ?_)
      clear hK K hh6 hbb hW
      refine wpAnyH_ready (fuel := 4) (rs := [6]) (by kernel_rfl) (by simp) ?_
      refine AllReadyH.cons (o := ⟨some 27, _, _, _, _, _⟩) rfl (fun K hK => ?_) AllReadyH.nil
      refine step_append_sn rfl (.tmp 22) (.tmp 26) 42 rfl w2.heap.size 47 i0 (.agg (mcells m0)) 10 80 Try.underlying42 hi0 hz0 hz1 hz2 rfl (by decide) _ 0 [] rfl HE2.out p l.length cap (cellsOf mc l) rfl HLN.out (HPP.out _ BB2.out) (mcs_one l) (by unfold maxLen; omega) (by omega) BB2.out.size ?_
      intro v1 W3 hown1 hgr1
      have BB3 := Lib.hid (BB2.out.grown hgr1 BB2.out.size (fun k hk => (HE2.out.lt k hk).1))
      have LB3 := Lib.hid (L2.out.step BB3.out)
      have HO3 := Lib.hid (show W3.ownsRow w2.heap.size 47 10 v1 l.length (cellsOf mc l) by simpa using hown1)
      have HM3 := Lib.hid ((hgr1.block W0.heap.size (lt_of_block HM2.out) (fun e => hne (Option.some.inj e))).trans HM2.out)
      refine hK.out _ _ LB3.out.mm (fun hh4 => ?_)
      clear hK K hh5 hown1 hgr1
      simp only [Act.put, List.setIfInBounds_toArray, List.set_cons_zero, List.set_cons_succ]
      refine wpAnyH_ready (fuel := 3) (rs := [11]) (by kernel_rfl) (by simp) ?_
      refine AllReadyH.cons (o := ⟨some 32, _, _, _, _, _⟩) rfl (fun K hK => ?_) AllReadyH.nil
      refine step_append_lies _ rfl (.tmp 27) (.tmp 31) 42 rfl w2.heap.size 47 i0 (.agg (mcells m0)) 10 80 Try.underlying42 hi0 hz0 hz1 hz2 rfl (by decide) v1 l.length (cellsOf mc l) rfl HO3.out ⟨W0.heap.size, 0, none⟩ 1 1 (mc (newE line d)) rfl rfl (World.news_of_block (cs := mcells (newE line d)) (t := 47) (fr := (0, 0)) HM3.out) (mc_one _) (by omega) (by unfold maxLen; omega) (by omega) BB3.out.size _ rfl ?_
      intro gg cap2 W4 hown2 hgr2 hat hlt2
      have BB4 := Lib.hid (BB3.out.grown hgr2 BB3.out.size (fun k hk => (HO3.out.lt k hk).1))
      have LB4 := Lib.hid (L2.out.step BB4.out)
      refine hK.out _ _ LB4.out.mm (fun hh2 => ?_)
      clear hK K hh4 hgr2 hat hlt2
      simp only [Act.put, List.setIfInBounds_toArray, List.set_cons_zero, List.set_cons_succ]
      refine wpAnyH_take (fuel := 2) (i := 12) (oi := ⟨some 33, _, _, _, _, _⟩) (v := .pointer (some ⟨b, 0, none⟩)) rfl (by kernel_rfl) (by kernel_rfl) (by kernel_rfl) (fun _ _ _ h => h) (Or.inl ⟨by rfl, ?_⟩) hh2 ?_
      · intro w' hw'
        go_simp
      simp only [Act.put, List.setIfInBounds_toArray, List.set_cons_zero, List.set_cons_succ]
      refine wpAnyH_take (fuel := 1) (i := 13) (oi := ⟨some 34, _, _, _, _, _⟩) (v := .pointer (some ⟨b, 1, none⟩)) rfl (by kernel_rfl) (by kernel_rfl) (by kernel_rfl) (fun _ _ _ h => h) (Or.inl ⟨by rfl, ?_⟩) hh2 ?_
      · intro w' hw'
        go_simp
      simp only [Act.put, List.setIfInBounds_toArray, List.set_cons_zero, List.set_cons_succ]
      refine wpAnyH_ready (fuel := 0) (rs := [14]) (by kernel_rfl) (by simp) ?_
      refine AllReadyH.cons (o := ⟨none, _, _, _, _, _⟩) rfl (fun K hK => ?_) AllReadyH.nil
      have hc1 := HC.out _ BB4.out
      have hf1 := HFZ.out _ BB4.out
      go_simp
      show K _ _
      refine hK.out _ _ (fun o => (World.cell?_of_block (heap_setCell_other _ _ _ _ HNE2.out)).trans (LB4.out.mm o)) (fun _ => ?_)
      clear hK K hh2 hc1 hf1
      refine wpAnyH_done (by kernel_rfl) ?_ _
      refine NoPanic.normal ?_
      have HG := Lib.hid (HT.out _ BB4.out _ hown2)
      clear hown2
      go_wp2
      go_ret
      exact ⟨rfl, HG.out⟩

/-- The document's Put. -/
theorem refPut_any {w : World} {B b : Nat} {room : Int} {l : List En} {v : Value} (h : BgD w B b room l v) (gd : Good room l) (hB : B ≤ w.heap.size) (line : Int) (d : Wd) :
    Calls Try.prog 9 #[.pointer (some ⟨b, 0, none⟩), .int .i64 line, .agg (dcells d)] w (GaveD w B b room v (putP room l line d)) := by
  have hl := gd.short
  have hlen := gd.len
  rcases hp : fnd l line with _ | i
  · by_cases hf : (l.length : Int) = room
    · rw [putP_full d hp hf]
      exact (refPut_full h line d hl hp hf).mono fun e w' ⟨h1, h2⟩ => ⟨h1, gave_same h h2⟩
    · rw [putP_yes d hp hf]
      exact (refPut_yes h hB line d (by omega) gd.r2 hp).mono fun e w' ⟨h1, h2⟩ => ⟨h1, h2⟩
  · rw [putP_twice d hp]
    exact (refPut_twice h line d hl hp).mono fun e w' ⟨h1, h2⟩ => ⟨h1, gave_same h h2⟩

end Go.Proofs.Ytlhecliamhjobaa
