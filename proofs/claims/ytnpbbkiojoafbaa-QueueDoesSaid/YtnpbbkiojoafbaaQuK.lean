/-
  The document's Add.
-/
import Derived.Test.YtnpbbkiojoafbaaQuJ
import Derived.Laws.AppendOwnNone
import Derived.Deep.RegionHeld3
namespace Go.Proofs.Ytnpbbkiojoafbaa
open Go Go.RowKit

/-- append of a slice that may be none, to a row of the call's own, as a step of a region. -/
theorem step_append_sn {P : Program} {ops : Array Oper} {o : Oper} {a : Act} {w : World} {K : Act → World → Prop} {Q : Exit → Act → World → Prop} {E : Prop} (hgd : o.guard = none) (s x : Operand) (t : TypeId)
    (ho : o.op = .call { callee := .builtin .append, args := #[s, x], argTypes := #[t, t] })
    (base : Nat) (e : TypeId) (i : TypeInfo) (z : Value) (size bytes : Nat) (ht : P.underlying t = some (.slice e)) (hi : P.info? e = some i) (hz : i.zero = some z)
    (hsize : i.size = size) (hby : i.bytes = bytes) (hzs : z.cells.size = size) (hsz : 0 < size)
    (v : Value) (n : Nat) (xs : List Value) (hs : a.eval s = v) (hown : w.ownsRow base e size v n xs)
    (p : Option Addr) (m c : Nat) (news : List Value) (hx : a.eval x = .slice p m c) (hl : news.length = m * size) (hp : (p = none ∧ m = 0 ∧ c = 0) ∨ ∃ ad, p = some ad ∧ ∀ j u, news[j]? = some u → w.cell? (ad.add j) = some u) (h1 : ∀ u ∈ news, u.oneCell' = true)
    (h63 : n + m ≤ maxLen) (hbytes : (n + m) * bytes ≤ 140737488355328) (hbase : base ≤ w.heap.size)
    (h : ∀ v' w', w'.ownsRow base e size v' (n + m) (xs ++ news) → w.grownBy w' v.ownBlock → K (a.put o.dst v') w') :
    if Region.wanted o (yielded ops a.tmps) = true then Oper.wp P o a w K Q else E := by
  have hw : Region.wanted o (yielded ops a.tmps) = true := by simp [Region.wanted, hgd]
  rw [if_pos hw]
  rcases hp with ⟨rfl, rfl, rfl⟩ | ⟨ad, rfl, hc⟩
  · have hn : news = [] := List.eq_nil_of_length_eq_zero (by rw [hl]; simp)
    subst hn
    have hrun := run_append_owned_none (P := P) (w := w) base t o.type e i size ht hi v n xs hown
    unfold Oper.wp
    simp [execOp, ho, resolve, invoke, builtin, hs, hx, hrun, Result.andThen]
    exact h v w (by simpa using hown) ⟨rfl, rfl, rfl, Nat.le_refl _, fun _ _ _ => rfl⟩
  · obtain ⟨v', w', hrun, r1, r2, _⟩ := run_append_own (P := P) w base t o.type e i z size bytes ht hi hz hsize hby hzs hsz v n xs hown ad m c news hl hc h1 h63 hbytes hbase
    unfold Oper.wp
    simp [execOp, ho, resolve, invoke, builtin, hs, hx, hrun, Result.andThen]
    exact h v' w' r1 r2



theorem yields_at {P : Program} {ops : Array Oper} {S : World → Prop} {op : Oper} {a : Act} (hw : Region.wanted op (yielded ops a.tmps) = true) (ty : TypeId) (x : Operand) (ho : op.op = .load ty x)
    (b o : Nat) (hx : a.eval x = .pointer (some ⟨b, o, none⟩)) (cs : Array Value) (d : TypeDesc) (hS : ∀ w', S w' → w'.rangeAt b o cs.toList) (hu : P.underlying ty = some d) (hd : d.isRow = true) (hi : (P.info? ty).map (·.size) = some cs.size) : YieldsIf P ops S op (.agg cs) a := by
  simpa using yieldsIf_load_mid hw ty x ho b o hx cs.toList d hS hu hd (by simpa using hi)
theorem own_below {w w' : World} {base e sz n : Nat} {v : Value} {xs : List Value} (h : w.ownsRow base e sz v n xs) (hb : Below w.heap.size w w') : w'.ownsRow base e sz v n xs := own_block h fun k hk => hb.block k (h.lt k hk).2
theorem gave_new {T e : TypeId} {w w2 : World} {B b : Nat} {room : Int} {l m : List Ep} {v u : Value} {n : Nat} (h : Bg T e 17 ec w B b room l v) (hw : Below w.heap.size w w2) (hB : B ≤ w.heap.size) (hm : m.length = n)
    (hown : w2.ownsRow w.heap.size e 17 u n (cellsOf ec m)) : PutGave T e 17 ec w B b room m v (w2.setCell ⟨b, 1, none⟩ u) := by
  have hbl := h.lt
  have hb2 : w2.heap[b]? = some (.cells #[.int .i64 room, v] T (0, 0)) := (hw.block b hbl).trans h.blk
  have hu : ∀ k, u.ownBlock = some k → w.heap.size ≤ k := fun k hk => (hown.lt k hk).1
  subst hm
  refine ⟨u, ⟨?_, ?_, ?_, h.big⟩, ?_, ?_⟩
  · rw [heap_setCell_same w2 b 1 _ _ _ hb2]
    rfl
  · exact own_base (own_block (w' := w2.setCell ⟨b, 1, none⟩ u) hown fun k hk => heap_setCell_other _ _ _ _ (by have := hu k hk; simp only; omega)) fun k hk => by have := hu k hk; omega
  · exact fun e => by have := hu b e; omega
  · refine ⟨hw.os, hw.tape, hw.output, ?_, fun k hk h1 _ => ?_⟩
    · have := hw.size; simp [World.setCell]; omega
    · exact (heap_setCell_other _ _ _ _ h1).trans (hw.block k hk)
  · exact fun k hk => .inr (hu k hk)
/-- A box of a message, behind a call's first steps. -/
structure Mbx (w : World) (b : Nat) (m : Msg) (X : World) : Prop where
  lt : b < w.heap.size
  gt : w.heap.size < X.heap.size
  below : Below w.heap.size w X
  mm : ∀ o, X.cell? ⟨w.heap.size, o, none⟩ = (mcells m)[o]?
theorem Mbx.new {w : World} {b : Nat} (m : Msg) (h : b < w.heap.size) : Mbx w b m (w.alloc (.cells (mcells m) 35)) := ⟨h, by simp, balloc _ _, blk_cell (heap_alloc_new w _)⟩
theorem Mbx.step {w X Z : World} {b : Nat} {m : Msg} (h : Mbx w b m X) (hb : Below X.heap.size X Z) : Mbx w b m Z := ⟨h.lt, Nat.lt_of_lt_of_le h.gt hb.size, bstep h.below hb, fun o => (hb.cell (p := ⟨w.heap.size, o, none⟩) h.gt).trans (h.mm o)⟩
theorem box_range {w : World} {g : Nat} {cs : Array Value} (h : ∀ o, w.cell? ⟨g, o, none⟩ = cs[o]?) : w.rangeAt g 0 cs.toList := fun j v hv => by
  rw [Nat.zero_add, h]
  simpa using hv
theorem rq_out {k : Int} (h : rq k = false) : k < 1 ∨ ¬ k < 1 ∧ 3 < k := by
  have := rq_no h
  simp at this
  omega
theorem rq_in {k : Int} (h : rq k = true) : ¬ k < 1 ∧ ¬ 3 < k := by
  rcases rq_yes h with h | ⟨-, h⟩ | ⟨-, -, h⟩ <;> (simp at h; omega)

set_option maxHeartbeats 1000000 in
theorem refAdd_kind {w : World} {b : Nat} (m : Msg) (hk : rq m.kd = false) :
    Calls Try.prog 11 #[.pointer (some ⟨b, 0, none⟩), mv m] w fun e w' => e = .returned (.int .i64 1) ∧ Below w.heap.size w w' := by
  have hb := balloc w (.cells (mcells m) 35)
  rcases rq_out hk with h1 | ⟨h1, h2⟩
  all_goals
    clear hk
    go_enter Try.func11, Try.ntmps11
    go_wp2
    go_ret
    exact ⟨rfl, hb⟩
set_option maxHeartbeats 1000000 in
theorem refAdd_full {w : World} {B b : Nat} {room : Int} {l : List Ep} {v : Value} (h : BgD w B b room l v) (m : Msg) (hk : rq m.kd = true) (hf : (l.length : Int) = room) :
    Calls Try.prog 11 #[.pointer (some ⟨b, 0, none⟩), mv m] w fun e w' => e = .returned (.int .i64 4) ∧ Below w.heap.size w w' := by
  have hb := balloc w (.cells (mcells m) 35)
  obtain ⟨k1, k2⟩ := rq_in hk
  have hd : decide (room ≤ (l.length : Int)) = true := by simp; omega
  obtain ⟨q, cap, rfl, hq⟩ := h.form
  have c0 := blk_cell (h.below hb).blk 0
  have c1 := blk_cell (h.below hb).blk 1
  simp at c0 c1
  clear h hk hq hf
  go_enter Try.func11, Try.ntmps11
  go_wp2
  go_quiet (fail)
  go_wp2
  go_ret
  exact ⟨rfl, below_drewN hb _⟩
set_option maxRecDepth 100000 in
set_option maxHeartbeats 4000000 in
theorem refAdd_yes {w : World} {B b : Nat} {room : Int} {l : List Ep} {v : Value} (h : BgD w B b room l v) (m : Msg) (hB : B ≤ w.heap.size) (hk : rq m.kd = true) (hl : (l.length : Int) < room) (h2 : room ≤ 16) :
    Calls Try.prog 11 #[.pointer (some ⟨b, 0, none⟩), mv m] w fun e w' => e = .returned (.int .i64 0) ∧ PutGave 53 61 17 ec w B b room (l ++ [⟨m, false, [], none, 0⟩]) v w' := by
  obtain ⟨i0, hi0, hz0, hz1, hz2⟩ := info_parts A61
  obtain ⟨k1, k2⟩ := rq_in hk
  have hbx := balloc w (.cells (mcells m) 35)
  have L1 := Lib.hid (Mbx.new m h.lt)
  have h' := h.below hbx
  have hN8 : l.length ≤ 16 := by omega
  have hd : decide (room ≤ (l.length : Int)) = false := by simp; omega
  obtain ⟨p, cap, rfl, hq⟩ := h.form
  have H2 := Lib.hid h'
  have c0 := blk_cell h'.blk 0
  have c1 := blk_cell h'.blk 1
  simp at c0 c1
  have HBB := Lib.hid hB
  clear h h' hl hq hbx hB hk
  go_enter Try.func11, Try.ntmps11
  obtain ⟨w2, hw2⟩ : ∃ w2, w2 = w.alloc (.cells (mcells m) 35) := ⟨_, rfl⟩
  go_wp2
  rw [← hw2] at L1 H2 c0 c1 ⊢
  clear hw2
  have L2 := L1
  clear L1
  go_quiet (fail)
  go_wp2_with fail
  have hlt2 := L2.out.lt
  have hB2 := L2.out.below.size
  have hrl : b < w2.heap.size := Nat.lt_trans L2.out.lt L2.out.gt
  have HC : Hid (∀ X, Below w2.heap.size w2 X → X.cell? ⟨b, 1, none⟩ = some (.slice p l.length cap)) := Lib.hid (fun X hb => (hb.cell (p := ⟨b, 1, none⟩) hrl).trans c1)
  have HFZ : Hid (∀ X, Below w2.heap.size w2 X → X.frozen? ⟨b, 1, none⟩ = false) := Lib.hid (fun X hb => blk_free (H2.out.below hb).blk _)
  have HLN : Hid ((cellsOf ec l).length = l.length * 17) := Lib.hid (cellsOf_len ec_len l)
  have HPP : Hid (∀ X, Below w2.heap.size w2 X → (p = none ∧ l.length = 0 ∧ cap = 0) ∨ ∃ ad, p = some ad ∧ ∀ q x, (cellsOf ec l)[q]? = some x → X.cell? (ad.add q) = some x) := Lib.hid (fun X hb => by
    have hrow' := (H2.out.below hb).row
    rcases hrow'.2 with ⟨e, h0⟩ | ⟨g, cp, cur, e, _⟩
    · simp only [Value.slice.injEq] at e
      exact .inl ⟨e.1, h0, e.2.2⟩
    · simp only [Value.slice.injEq] at e
      obtain ⟨rfl, -, rfl⟩ := e
      exact .inr ⟨_, rfl, fun q x hx => hrow'.cells rfl q x hx⟩)
  have HNE2 : Hid (w.heap.size ≠ b) := Lib.hid (by omega)
  have HT : Hid (∀ X, Below w2.heap.size w2 X → ∀ y, X.ownsRow w2.heap.size 61 17 y (l.length + 1) (cellsOf ec l ++ ec (⟨m, false, [], none, 0⟩ : Ep)) → PutGave 53 61 17 ec w B b room (l ++ [(⟨m, false, [], none, 0⟩ : Ep)]) (.slice p l.length cap) (X.setCell ⟨b, 1, none⟩ y)) := Lib.hid (fun X hb y hy => PutGave.after (gave_new (n := l.length + 1) H2.out hb (Nat.le_trans HBB.out hB2) (by simp) (by rw [cellsOf_append]; simpa [cellsOf] using hy)) L2.out.below)
  obtain ⟨W0, hW⟩ : ∃ X, X = (w2.drewN nq).drew := ⟨_, rfl⟩
  have BB0 : Hid (Below w2.heap.size w2 W0) := Lib.hid (by rw [hW]; exact (below_drewN (Below.refl _ _) _).drew)
  have LB0 := Lib.hid (L2.out.step BB0.out)
  have hS0 := LB0.out.mm
  rw [hW] at hS0
  clear c0 c1 hlt2 hrl
  refine wp_region_noPanic ?_
  refine wp_region_held_drew (S := fun w' => ∀ o, w'.cell? ⟨w.heap.size, o, none⟩ = (mcells m)[o]?) (by kernel_rfl) hS0 (fun hh => ?_)
  rw [← hW] at hh ⊢
  clear hW hS0
  refine wpAnyH_take (fuel := 13) (i := 0) (oi := ⟨some 23, _, _, _, _, _⟩) (v := .pointer (some ⟨b, 0, none⟩)) rfl (by kernel_rfl) (by kernel_rfl) (by kernel_rfl) (fun _ _ _ h => h) (Or.inl ⟨by rfl, ?_⟩) hh ?_
  · intro w' hw'
    go_simp
  simp only [Act.put, List.setIfInBounds_toArray, List.set_cons_zero, List.set_cons_succ]
  refine wpAnyH_take (fuel := 12) (i := 2) (oi := ⟨some 25, _, _, _, _, _⟩) (v := .pointer (some ⟨b, 0, none⟩)) rfl (by kernel_rfl) (by kernel_rfl) (by kernel_rfl) (fun _ _ _ h => h) (Or.inl ⟨by rfl, ?_⟩) hh ?_
  · intro w' hw'
    go_simp
  simp only [Act.put, List.setIfInBounds_toArray, List.set_cons_zero, List.set_cons_succ]
  refine wpAnyH_take (fuel := 11) (i := 3) (oi := ⟨some 26, _, _, _, _, _⟩) (v := .pointer (some ⟨b, 0, none⟩)) rfl (by kernel_rfl) (by kernel_rfl) (by kernel_rfl) (fun _ _ _ h => h) (Or.inl ⟨by rfl, ?_⟩) hh ?_
  · intro w' hw'
    go_simp
  simp only [Act.put, List.setIfInBounds_toArray, List.set_cons_zero, List.set_cons_succ]
  refine wpAnyH_take (fuel := 10) (i := 4) (oi := ⟨some 27, _, _, _, _, _⟩) (v := .pointer (some ⟨b, 1, none⟩)) rfl (by kernel_rfl) (by kernel_rfl) (by kernel_rfl) (fun _ _ _ h => h) (Or.inl ⟨by rfl, ?_⟩) hh ?_
  · intro w' hw'
    go_simp
  simp only [Act.put, List.setIfInBounds_toArray, List.set_cons_zero, List.set_cons_succ]
  refine wpAnyH_take (fuel := 9) (i := 7) (oi := ⟨some 30, _, _, _, _, _⟩) (v := mv m) rfl (by kernel_rfl) (by kernel_rfl) (by kernel_rfl) (fun _ _ _ h => h) (yields_at (by rfl) 35 (.tmp 3) rfl w.heap.size 0 rfl (mcells m) _ (fun w' h => box_range h) Try.underlying35 rfl (by kernel_rfl)) hh ?_
  simp only [Act.put, List.setIfInBounds_toArray, List.set_cons_zero, List.set_cons_succ]
  refine wpAnyH_take (fuel := 8) (i := 8) (oi := ⟨some 31, _, _, _, _, _⟩) (v := .agg (ecells (⟨m, false, [], none, 0⟩ : Ep))) rfl (by kernel_rfl) (by kernel_rfl) (by kernel_rfl) (fun _ _ _ h => h) (Or.inl ⟨by rfl, ?_⟩) hh ?_
  · intro w' hw'
    go_simp
  simp only [Act.put, List.setIfInBounds_toArray, List.set_cons_zero, List.set_cons_succ]
  refine wpAnyH_ready (fuel := 7) (rs := [1, 5, 9]) (by kernel_rfl) (by simp) ?_
  refine AllReadyH.cons (o := ⟨some 24, _, _, _, _, _⟩) rfl (fun K hK => ?_) (AllReadyH.cons (o := ⟨some 28, _, _, _, _, _⟩) rfl (fun K hK => ?_) (AllReadyH.cons (o := ⟨some 32, _, _, _, _, _⟩) rfl (fun K hK => ?_) AllReadyH.nil))
  · skip
    go_simp
    obtain ⟨W1, hW⟩ : ∃ X, X = W0.alloc (.cells #[] 61) := ⟨_, rfl⟩
    rw [← hW]
    have hbb : Below W0.heap.size W0 W1 := by rw [hW]; exact (Below.refl _ _).alloc (Nat.le_refl _) _
    have BB1 := Lib.hid (bstep BB0.out hbb)
    have LB1 := Lib.hid (L2.out.step BB1.out)
    have HE1 := Lib.hid (show W1.ownsRow w2.heap.size 61 17 (.slice (some ⟨W0.heap.size, 0, none⟩) 0 0) 0 [] by rw [hW]; exact World.ownsRow_made W0 #[] 0 BB0.out.size (Nat.zero_le _) rfl)
    show K _ _
    refine hK.out _ _ LB1.out.mm (fun hh7 => ?_)
    clear hK K hh hbb hW
    refine wpAnyH_ready (fuel := 6) (rs := [5, 9]) (by kernel_rfl) (by simp) ?_
    refine AllReadyH.cons (o := ⟨some 28, _, _, _, _, _⟩) rfl (fun K hK => ?_) (AllReadyH.cons (o := ⟨some 32, _, _, _, _, _⟩) rfl (fun K hK => ?_) AllReadyH.nil)
    · skip
      have hc1 := HC.out _ BB1.out
      go_simp
      show K _ _
      refine hK.out _ _ LB1.out.mm (fun hh6 => ?_)
      clear hK K hh7 hc1
      refine wpAnyH_ready (fuel := 5) (rs := [6, 9]) (by kernel_rfl) (by simp) ?_
      refine AllReadyH.cons (o := ⟨some 29, _, _, _, _, _⟩) rfl (fun K hK => ?_) (AllReadyH.cons (o := ⟨some 32, _, _, _, _, _⟩) rfl (fun K hK => ?_) AllReadyH.nil)
      · skip
        refine step_append_sn rfl (.tmp 24) (.tmp 28) 48 rfl w2.heap.size 61 i0 (.agg (ecells e0)) 17 152 Try.underlying48 hi0 hz0 hz1 hz2 rfl (by decide) _ 0 [] rfl HE1.out p l.length cap (cellsOf ec l) rfl HLN.out (HPP.out _ BB1.out) (ecs_one l) (by unfold maxLen; omega) (by omega) BB1.out.size ?_
        intro v1 W2 hown1 hgr1
        have BB2 := Lib.hid (BB1.out.grown hgr1 BB1.out.size (fun k hk => (HE1.out.lt k hk).1))
        have LB2 := Lib.hid (L2.out.step BB2.out)
        have HO2 := Lib.hid (show W2.ownsRow w2.heap.size 61 17 v1 l.length (cellsOf ec l) by simpa using hown1)
        refine hK.out _ _ LB2.out.mm (fun hh5 => ?_)
        clear hK K hh6 hown1 hgr1
        simp only [Act.put, List.setIfInBounds_toArray, List.set_cons_zero, List.set_cons_succ]
        refine wpAnyH_ready (fuel := 4) (rs := [9]) (by kernel_rfl) (by simp) ?_
        refine AllReadyH.cons (o := ⟨some 32, _, _, _, _, _⟩) rfl (fun K hK => ?_) AllReadyH.nil
        go_simp
        show K _ (W2.alloc (.cells (ecells (⟨m, false, [], none, 0⟩ : Ep)) 61))
        obtain ⟨W3, hW⟩ : ∃ X, X = W2.alloc (.cells (ecells (⟨m, false, [], none, 0⟩ : Ep)) 61) := ⟨_, rfl⟩
        rw [← hW]
        have hbb : Below W2.heap.size W2 W3 := by rw [hW]; exact (Below.refl _ _).alloc (Nat.le_refl _) _
        have BB3 := Lib.hid (bstep BB2.out hbb)
        have LB3 := Lib.hid (L2.out.step BB3.out)
        have HM3 := Lib.hid (show W3.heap[W2.heap.size]? = some (.cells (ecells (⟨m, false, [], none, 0⟩ : Ep)) 61 (0, 0)) by rw [hW]; exact heap_alloc_new W2 _)
        have HO3 := Lib.hid (own_below HO2.out hbb)
        show K _ _
        refine hK.out _ _ LB3.out.mm (fun hh4 => ?_)
        clear hK K hh5 hbb hW
        refine wpAnyH_ready (fuel := 3) (rs := [10]) (by kernel_rfl) (by simp) ?_
        refine AllReadyH.cons (o := ⟨some 33, _, _, _, _, _⟩) rfl (fun K hK => ?_) AllReadyH.nil
        refine step_append_lies _ rfl (.tmp 29) (.tmp 32) 48 rfl w2.heap.size 61 i0 (.agg (ecells e0)) 17 152 Try.underlying48 hi0 hz0 hz1 hz2 rfl (by decide) v1 l.length (cellsOf ec l) rfl HO3.out ⟨W2.heap.size, 0, none⟩ 1 1 (ec (⟨m, false, [], none, 0⟩ : Ep)) rfl rfl (World.news_of_block (cs := ecells (⟨m, false, [], none, 0⟩ : Ep)) (t := 61) (fr := (0, 0)) HM3.out) (ec_one _) (by omega) (by unfold maxLen; omega) (by omega) BB3.out.size _ rfl ?_
        intro gg cap2 W4 hown2 hgr2 hat hlt2
        have BB4 := Lib.hid (BB3.out.grown hgr2 BB3.out.size (fun k hk => (HO3.out.lt k hk).1))
        have LB4 := Lib.hid (L2.out.step BB4.out)
        refine hK.out _ _ LB4.out.mm (fun hh2 => ?_)
        clear hK K hh4 hgr2 hat hlt2
        simp only [Act.put, List.setIfInBounds_toArray, List.set_cons_zero, List.set_cons_succ]
        refine wpAnyH_take (fuel := 2) (i := 11) (oi := ⟨some 34, _, _, _, _, _⟩) (v := .pointer (some ⟨b, 0, none⟩)) rfl (by kernel_rfl) (by kernel_rfl) (by kernel_rfl) (fun _ _ _ h => h) (Or.inl ⟨by rfl, ?_⟩) hh2 ?_
        · intro w' hw'
          go_simp
        simp only [Act.put, List.setIfInBounds_toArray, List.set_cons_zero, List.set_cons_succ]
        refine wpAnyH_take (fuel := 1) (i := 12) (oi := ⟨some 35, _, _, _, _, _⟩) (v := .pointer (some ⟨b, 1, none⟩)) rfl (by kernel_rfl) (by kernel_rfl) (by kernel_rfl) (fun _ _ _ h => h) (Or.inl ⟨by rfl, ?_⟩) hh2 ?_
        · intro w' hw'
          go_simp
        simp only [Act.put, List.setIfInBounds_toArray, List.set_cons_zero, List.set_cons_succ]
        refine wpAnyH_ready (fuel := 0) (rs := [13]) (by kernel_rfl) (by simp) ?_
        refine AllReadyH.cons (o := ⟨none, _, _, _, _, _⟩) rfl (fun K hK => ?_) AllReadyH.nil
        have hc1 := HC.out _ BB4.out
        have hf1 := HFZ.out _ BB4.out
        go_simp
        show K _ _
        refine hK.out _ _ (fun o => (World.cell?_of_block (heap_setCell_other _ _ _ _ HNE2.out)).trans (LB4.out.mm o)) (fun _ => ?_)
        clear hK K hh2 hc1 hf1
        refine wpAnyH_done (by kernel_rfl) ?_ _
        refine NoPanic.normal ?_
        have HG := Lib.hid (HT.out _ BB4.out _ hown2)
        clear hown2
        go_wp2
        go_ret
        exact ⟨rfl, HG.out⟩
      · skip
        go_simp
        show K _ (W1.alloc (.cells (ecells (⟨m, false, [], none, 0⟩ : Ep)) 61))
        obtain ⟨W2, hW⟩ : ∃ X, X = W1.alloc (.cells (ecells (⟨m, false, [], none, 0⟩ : Ep)) 61) := ⟨_, rfl⟩
        rw [← hW]
        have hbb : Below W1.heap.size W1 W2 := by rw [hW]; exact (Below.refl _ _).alloc (Nat.le_refl _) _
        have BB2 := Lib.hid (bstep BB1.out hbb)
        have LB2 := Lib.hid (L2.out.step BB2.out)
        have HM2 := Lib.hid (show W2.heap[W1.heap.size]? = some (.cells (ecells (⟨m, false, [], none, 0⟩ : Ep)) 61 (0, 0)) by rw [hW]; exact heap_alloc_new W1 _)
        have HE2 := Lib.hid (own_below HE1.out hbb)
        have hne : W1.heap.size ≠ W0.heap.size := by have := (HE1.out.lt W0.heap.size rfl).2; omega
        show K _ _
        refine hK.out _ _ LB2.out.mm (fun hh5 => ?_)
        clear hK K hh6 hbb hW
        refine wpAnyH_ready (fuel := 4) (rs := [6]) (by kernel_rfl) (by simp) ?_
        refine AllReadyH.cons (o := ⟨some 29, _, _, _, _, _⟩) rfl (fun K hK => ?_) AllReadyH.nil
        refine step_append_sn rfl (.tmp 24) (.tmp 28) 48 rfl w2.heap.size 61 i0 (.agg (ecells e0)) 17 152 Try.underlying48 hi0 hz0 hz1 hz2 rfl (by decide) _ 0 [] rfl HE2.out p l.length cap (cellsOf ec l) rfl HLN.out (HPP.out _ BB2.out) (ecs_one l) (by unfold maxLen; omega) (by omega) BB2.out.size ?_
        intro v1 W3 hown1 hgr1
        have BB3 := Lib.hid (BB2.out.grown hgr1 BB2.out.size (fun k hk => (HE2.out.lt k hk).1))
        have LB3 := Lib.hid (L2.out.step BB3.out)
        have HO3 := Lib.hid (show W3.ownsRow w2.heap.size 61 17 v1 l.length (cellsOf ec l) by simpa using hown1)
        have HM3 := Lib.hid ((hgr1.block W1.heap.size (lt_of_block HM2.out) (fun e => hne (Option.some.inj e))).trans HM2.out)
        refine hK.out _ _ LB3.out.mm (fun hh4 => ?_)
        clear hK K hh5 hown1 hgr1
        simp only [Act.put, List.setIfInBounds_toArray, List.set_cons_zero, List.set_cons_succ]
        refine wpAnyH_ready (fuel := 3) (rs := [10]) (by kernel_rfl) (by simp) ?_
        refine AllReadyH.cons (o := ⟨some 33, _, _, _, _, _⟩) rfl (fun K hK => ?_) AllReadyH.nil
        refine step_append_lies _ rfl (.tmp 29) (.tmp 32) 48 rfl w2.heap.size 61 i0 (.agg (ecells e0)) 17 152 Try.underlying48 hi0 hz0 hz1 hz2 rfl (by decide) v1 l.length (cellsOf ec l) rfl HO3.out ⟨W1.heap.size, 0, none⟩ 1 1 (ec (⟨m, false, [], none, 0⟩ : Ep)) rfl rfl (World.news_of_block (cs := ecells (⟨m, false, [], none, 0⟩ : Ep)) (t := 61) (fr := (0, 0)) HM3.out) (ec_one _) (by omega) (by unfold maxLen; omega) (by omega) BB3.out.size _ rfl ?_
        intro gg cap2 W4 hown2 hgr2 hat hlt2
        have BB4 := Lib.hid (BB3.out.grown hgr2 BB3.out.size (fun k hk => (HO3.out.lt k hk).1))
        have LB4 := Lib.hid (L2.out.step BB4.out)
        refine hK.out _ _ LB4.out.mm (fun hh2 => ?_)
        clear hK K hh4 hgr2 hat hlt2
        simp only [Act.put, List.setIfInBounds_toArray, List.set_cons_zero, List.set_cons_succ]
        refine wpAnyH_take (fuel := 2) (i := 11) (oi := ⟨some 34, _, _, _, _, _⟩) (v := .pointer (some ⟨b, 0, none⟩)) rfl (by kernel_rfl) (by kernel_rfl) (by kernel_rfl) (fun _ _ _ h => h) (Or.inl ⟨by rfl, ?_⟩) hh2 ?_
        · intro w' hw'
          go_simp
        simp only [Act.put, List.setIfInBounds_toArray, List.set_cons_zero, List.set_cons_succ]
        refine wpAnyH_take (fuel := 1) (i := 12) (oi := ⟨some 35, _, _, _, _, _⟩) (v := .pointer (some ⟨b, 1, none⟩)) rfl (by kernel_rfl) (by kernel_rfl) (by kernel_rfl) (fun _ _ _ h => h) (Or.inl ⟨by rfl, ?_⟩) hh2 ?_
        · intro w' hw'
          go_simp
        simp only [Act.put, List.setIfInBounds_toArray, List.set_cons_zero, List.set_cons_succ]
        refine wpAnyH_ready (fuel := 0) (rs := [13]) (by kernel_rfl) (by simp) ?_
        refine AllReadyH.cons (o := ⟨none, _, _, _, _, _⟩) rfl (fun K hK => ?_) AllReadyH.nil
        have hc1 := HC.out _ BB4.out
        have hf1 := HFZ.out _ BB4.out
        go_simp
        show K _ _
        refine hK.out _ _ (fun o => (World.cell?_of_block (heap_setCell_other _ _ _ _ HNE2.out)).trans (LB4.out.mm o)) (fun _ => ?_)
        clear hK K hh2 hc1 hf1
        refine wpAnyH_done (by kernel_rfl) ?_ _
        refine NoPanic.normal ?_
        have HG := Lib.hid (HT.out _ BB4.out _ hown2)
        clear hown2
        go_wp2
        go_ret
        exact ⟨rfl, HG.out⟩
    · skip
      go_simp
      show K _ (W1.alloc (.cells (ecells (⟨m, false, [], none, 0⟩ : Ep)) 61))
      obtain ⟨W2, hW⟩ : ∃ X, X = W1.alloc (.cells (ecells (⟨m, false, [], none, 0⟩ : Ep)) 61) := ⟨_, rfl⟩
      rw [← hW]
      have hbb : Below W1.heap.size W1 W2 := by rw [hW]; exact (Below.refl _ _).alloc (Nat.le_refl _) _
      have BB2 := Lib.hid (bstep BB1.out hbb)
      have LB2 := Lib.hid (L2.out.step BB2.out)
      have HM2 := Lib.hid (show W2.heap[W1.heap.size]? = some (.cells (ecells (⟨m, false, [], none, 0⟩ : Ep)) 61 (0, 0)) by rw [hW]; exact heap_alloc_new W1 _)
      have HE2 := Lib.hid (own_below HE1.out hbb)
      have hne : W1.heap.size ≠ W0.heap.size := by have := (HE1.out.lt W0.heap.size rfl).2; omega
      show K _ _
      refine hK.out _ _ LB2.out.mm (fun hh6 => ?_)
      clear hK K hh7 hbb hW
      refine wpAnyH_ready (fuel := 5) (rs := [5]) (by kernel_rfl) (by simp) ?_
      refine AllReadyH.cons (o := ⟨some 28, _, _, _, _, _⟩) rfl (fun K hK => ?_) AllReadyH.nil
      have hc1 := HC.out _ BB2.out
      go_simp
      show K _ _
      refine hK.out _ _ LB2.out.mm (fun hh5 => ?_)
      clear hK K hh6 hc1
      refine wpAnyH_ready (fuel := 4) (rs := [6]) (by kernel_rfl) (by simp) ?_
      refine AllReadyH.cons (o := ⟨some 29, _, _, _, _, _⟩) rfl (fun K hK => ?_) AllReadyH.nil
      refine step_append_sn rfl (.tmp 24) (.tmp 28) 48 rfl w2.heap.size 61 i0 (.agg (ecells e0)) 17 152 Try.underlying48 hi0 hz0 hz1 hz2 rfl (by decide) _ 0 [] rfl HE2.out p l.length cap (cellsOf ec l) rfl HLN.out (HPP.out _ BB2.out) (ecs_one l) (by unfold maxLen; omega) (by omega) BB2.out.size ?_
      intro v1 W3 hown1 hgr1
      have BB3 := Lib.hid (BB2.out.grown hgr1 BB2.out.size (fun k hk => (HE2.out.lt k hk).1))
      have LB3 := Lib.hid (L2.out.step BB3.out)
      have HO3 := Lib.hid (show W3.ownsRow w2.heap.size 61 17 v1 l.length (cellsOf ec l) by simpa using hown1)
      have HM3 := Lib.hid ((hgr1.block W1.heap.size (lt_of_block HM2.out) (fun e => hne (Option.some.inj e))).trans HM2.out)
      refine hK.out _ _ LB3.out.mm (fun hh4 => ?_)
      clear hK K hh5 hown1 hgr1
      simp only [Act.put, List.setIfInBounds_toArray, List.set_cons_zero, List.set_cons_succ]
      refine wpAnyH_ready (fuel := 3) (rs := [10]) (by kernel_rfl) (by simp) ?_
      refine AllReadyH.cons (o := ⟨some 33, _, _, _, _, _⟩) rfl (fun K hK => ?_) AllReadyH.nil
      refine step_append_lies _ rfl (.tmp 29) (.tmp 32) 48 rfl w2.heap.size 61 i0 (.agg (ecells e0)) 17 152 Try.underlying48 hi0 hz0 hz1 hz2 rfl (by decide) v1 l.length (cellsOf ec l) rfl HO3.out ⟨W1.heap.size, 0, none⟩ 1 1 (ec (⟨m, false, [], none, 0⟩ : Ep)) rfl rfl (World.news_of_block (cs := ecells (⟨m, false, [], none, 0⟩ : Ep)) (t := 61) (fr := (0, 0)) HM3.out) (ec_one _) (by omega) (by unfold maxLen; omega) (by omega) BB3.out.size _ rfl ?_
      intro gg cap2 W4 hown2 hgr2 hat hlt2
      have BB4 := Lib.hid (BB3.out.grown hgr2 BB3.out.size (fun k hk => (HO3.out.lt k hk).1))
      have LB4 := Lib.hid (L2.out.step BB4.out)
      refine hK.out _ _ LB4.out.mm (fun hh2 => ?_)
      clear hK K hh4 hgr2 hat hlt2
      simp only [Act.put, List.setIfInBounds_toArray, List.set_cons_zero, List.set_cons_succ]
      refine wpAnyH_take (fuel := 2) (i := 11) (oi := ⟨some 34, _, _, _, _, _⟩) (v := .pointer (some ⟨b, 0, none⟩)) rfl (by kernel_rfl) (by kernel_rfl) (by kernel_rfl) (fun _ _ _ h => h) (Or.inl ⟨by rfl, ?_⟩) hh2 ?_
      · intro w' hw'
        go_simp
      simp only [Act.put, List.setIfInBounds_toArray, List.set_cons_zero, List.set_cons_succ]
      refine wpAnyH_take (fuel := 1) (i := 12) (oi := ⟨some 35, _, _, _, _, _⟩) (v := .pointer (some ⟨b, 1, none⟩)) rfl (by kernel_rfl) (by kernel_rfl) (by kernel_rfl) (fun _ _ _ h => h) (Or.inl ⟨by rfl, ?_⟩) hh2 ?_
      · intro w' hw'
        go_simp
      simp only [Act.put, List.setIfInBounds_toArray, List.set_cons_zero, List.set_cons_succ]
      refine wpAnyH_ready (fuel := 0) (rs := [13]) (by kernel_rfl) (by simp) ?_
      refine AllReadyH.cons (o := ⟨none, _, _, _, _, _⟩) rfl (fun K hK => ?_) AllReadyH.nil
      have hc1 := HC.out _ BB4.out
      have hf1 := HFZ.out _ BB4.out
      go_simp
      show K _ _
      refine hK.out _ _ (fun o => (World.cell?_of_block (heap_setCell_other _ _ _ _ HNE2.out)).trans (LB4.out.mm o)) (fun _ => ?_)
      clear hK K hh2 hc1 hf1
      refine wpAnyH_done (by kernel_rfl) ?_ _
      refine NoPanic.normal ?_
      have HG := Lib.hid (HT.out _ BB4.out _ hown2)
      clear hown2
      go_wp2
      go_ret
      exact ⟨rfl, HG.out⟩
  · skip
    have hc1 := HC.out _ BB0.out
    go_simp
    show K _ _
    refine hK.out _ _ LB0.out.mm (fun hh7 => ?_)
    clear hK K hh hc1
    refine wpAnyH_ready (fuel := 6) (rs := [1, 9]) (by kernel_rfl) (by simp) ?_
    refine AllReadyH.cons (o := ⟨some 24, _, _, _, _, _⟩) rfl (fun K hK => ?_) (AllReadyH.cons (o := ⟨some 32, _, _, _, _, _⟩) rfl (fun K hK => ?_) AllReadyH.nil)
    · skip
      go_simp
      obtain ⟨W1, hW⟩ : ∃ X, X = W0.alloc (.cells #[] 61) := ⟨_, rfl⟩
      rw [← hW]
      have hbb : Below W0.heap.size W0 W1 := by rw [hW]; exact (Below.refl _ _).alloc (Nat.le_refl _) _
      have BB1 := Lib.hid (bstep BB0.out hbb)
      have LB1 := Lib.hid (L2.out.step BB1.out)
      have HE1 := Lib.hid (show W1.ownsRow w2.heap.size 61 17 (.slice (some ⟨W0.heap.size, 0, none⟩) 0 0) 0 [] by rw [hW]; exact World.ownsRow_made W0 #[] 0 BB0.out.size (Nat.zero_le _) rfl)
      show K _ _
      refine hK.out _ _ LB1.out.mm (fun hh6 => ?_)
      clear hK K hh7 hbb hW
      refine wpAnyH_ready (fuel := 5) (rs := [6, 9]) (by kernel_rfl) (by simp) ?_
      refine AllReadyH.cons (o := ⟨some 29, _, _, _, _, _⟩) rfl (fun K hK => ?_) (AllReadyH.cons (o := ⟨some 32, _, _, _, _, _⟩) rfl (fun K hK => ?_) AllReadyH.nil)
      · skip
        refine step_append_sn rfl (.tmp 24) (.tmp 28) 48 rfl w2.heap.size 61 i0 (.agg (ecells e0)) 17 152 Try.underlying48 hi0 hz0 hz1 hz2 rfl (by decide) _ 0 [] rfl HE1.out p l.length cap (cellsOf ec l) rfl HLN.out (HPP.out _ BB1.out) (ecs_one l) (by unfold maxLen; omega) (by omega) BB1.out.size ?_
        intro v1 W2 hown1 hgr1
        have BB2 := Lib.hid (BB1.out.grown hgr1 BB1.out.size (fun k hk => (HE1.out.lt k hk).1))
        have LB2 := Lib.hid (L2.out.step BB2.out)
        have HO2 := Lib.hid (show W2.ownsRow w2.heap.size 61 17 v1 l.length (cellsOf ec l) by simpa using hown1)
        refine hK.out _ _ LB2.out.mm (fun hh5 => ?_)
        clear hK K hh6 hown1 hgr1
        simp only [Act.put, List.setIfInBounds_toArray, List.set_cons_zero, List.set_cons_succ]
        refine wpAnyH_ready (fuel := 4) (rs := [9]) (by kernel_rfl) (by simp) ?_
        refine AllReadyH.cons (o := ⟨some 32, _, _, _, _, _⟩) rfl (fun K hK => ?_) AllReadyH.nil
        go_simp
        show K _ (W2.alloc (.cells (ecells (⟨m, false, [], none, 0⟩ : Ep)) 61))
        obtain ⟨W3, hW⟩ : ∃ X, X = W2.alloc (.cells (ecells (⟨m, false, [], none, 0⟩ : Ep)) 61) := ⟨_, rfl⟩
        rw [← hW]
        have hbb : Below W2.heap.size W2 W3 := by rw [hW]; exact (Below.refl _ _).alloc (Nat.le_refl _) _
        have BB3 := Lib.hid (bstep BB2.out hbb)
        have LB3 := Lib.hid (L2.out.step BB3.out)
        have HM3 := Lib.hid (show W3.heap[W2.heap.size]? = some (.cells (ecells (⟨m, false, [], none, 0⟩ : Ep)) 61 (0, 0)) by rw [hW]; exact heap_alloc_new W2 _)
        have HO3 := Lib.hid (own_below HO2.out hbb)
        show K _ _
        refine hK.out _ _ LB3.out.mm (fun hh4 => ?_)
        clear hK K hh5 hbb hW
        refine wpAnyH_ready (fuel := 3) (rs := [10]) (by kernel_rfl) (by simp) ?_
        refine AllReadyH.cons (o := ⟨some 33, _, _, _, _, _⟩) rfl (fun K hK => ?_) AllReadyH.nil
        refine step_append_lies _ rfl (.tmp 29) (.tmp 32) 48 rfl w2.heap.size 61 i0 (.agg (ecells e0)) 17 152 Try.underlying48 hi0 hz0 hz1 hz2 rfl (by decide) v1 l.length (cellsOf ec l) rfl HO3.out ⟨W2.heap.size, 0, none⟩ 1 1 (ec (⟨m, false, [], none, 0⟩ : Ep)) rfl rfl (World.news_of_block (cs := ecells (⟨m, false, [], none, 0⟩ : Ep)) (t := 61) (fr := (0, 0)) HM3.out) (ec_one _) (by omega) (by unfold maxLen; omega) (by omega) BB3.out.size _ rfl ?_
        intro gg cap2 W4 hown2 hgr2 hat hlt2
        have BB4 := Lib.hid (BB3.out.grown hgr2 BB3.out.size (fun k hk => (HO3.out.lt k hk).1))
        have LB4 := Lib.hid (L2.out.step BB4.out)
        refine hK.out _ _ LB4.out.mm (fun hh2 => ?_)
        clear hK K hh4 hgr2 hat hlt2
        simp only [Act.put, List.setIfInBounds_toArray, List.set_cons_zero, List.set_cons_succ]
        refine wpAnyH_take (fuel := 2) (i := 11) (oi := ⟨some 34, _, _, _, _, _⟩) (v := .pointer (some ⟨b, 0, none⟩)) rfl (by kernel_rfl) (by kernel_rfl) (by kernel_rfl) (fun _ _ _ h => h) (Or.inl ⟨by rfl, ?_⟩) hh2 ?_
        · intro w' hw'
          go_simp
        simp only [Act.put, List.setIfInBounds_toArray, List.set_cons_zero, List.set_cons_succ]
        refine wpAnyH_take (fuel := 1) (i := 12) (oi := ⟨some 35, _, _, _, _, _⟩) (v := .pointer (some ⟨b, 1, none⟩)) rfl (by kernel_rfl) (by kernel_rfl) (by kernel_rfl) (fun _ _ _ h => h) (Or.inl ⟨by rfl, ?_⟩) hh2 ?_
        · intro w' hw'
          go_simp
        simp only [Act.put, List.setIfInBounds_toArray, List.set_cons_zero, List.set_cons_succ]
        refine wpAnyH_ready (fuel := 0) (rs := [13]) (by kernel_rfl) (by simp) ?_
        refine AllReadyH.cons (o := ⟨none, _, _, _, _, _⟩) rfl (fun K hK => ?_) AllReadyH.nil
        have hc1 := HC.out _ BB4.out
        have hf1 := HFZ.out _ BB4.out
        go_simp
        show K _ _
        refine hK.out _ _ (fun o => (World.cell?_of_block (heap_setCell_other _ _ _ _ HNE2.out)).trans (LB4.out.mm o)) (fun _ => ?_)
        clear hK K hh2 hc1 hf1
        refine wpAnyH_done (by kernel_rfl) ?_ _
        refine NoPanic.normal ?_
        have HG := Lib.hid (HT.out _ BB4.out _ hown2)
        clear hown2
        go_wp2
        go_ret
        exact ⟨rfl, HG.out⟩
      · skip
        go_simp
        show K _ (W1.alloc (.cells (ecells (⟨m, false, [], none, 0⟩ : Ep)) 61))
        obtain ⟨W2, hW⟩ : ∃ X, X = W1.alloc (.cells (ecells (⟨m, false, [], none, 0⟩ : Ep)) 61) := ⟨_, rfl⟩
        rw [← hW]
        have hbb : Below W1.heap.size W1 W2 := by rw [hW]; exact (Below.refl _ _).alloc (Nat.le_refl _) _
        have BB2 := Lib.hid (bstep BB1.out hbb)
        have LB2 := Lib.hid (L2.out.step BB2.out)
        have HM2 := Lib.hid (show W2.heap[W1.heap.size]? = some (.cells (ecells (⟨m, false, [], none, 0⟩ : Ep)) 61 (0, 0)) by rw [hW]; exact heap_alloc_new W1 _)
        have HE2 := Lib.hid (own_below HE1.out hbb)
        have hne : W1.heap.size ≠ W0.heap.size := by have := (HE1.out.lt W0.heap.size rfl).2; omega
        show K _ _
        refine hK.out _ _ LB2.out.mm (fun hh5 => ?_)
        clear hK K hh6 hbb hW
        refine wpAnyH_ready (fuel := 4) (rs := [6]) (by kernel_rfl) (by simp) ?_
        refine AllReadyH.cons (o := ⟨some 29, _, _, _, _, _⟩) rfl (fun K hK => ?_) AllReadyH.nil
        refine step_append_sn rfl (.tmp 24) (.tmp 28) 48 rfl w2.heap.size 61 i0 (.agg (ecells e0)) 17 152 Try.underlying48 hi0 hz0 hz1 hz2 rfl (by decide) _ 0 [] rfl HE2.out p l.length cap (cellsOf ec l) rfl HLN.out (HPP.out _ BB2.out) (ecs_one l) (by unfold maxLen; omega) (by omega) BB2.out.size ?_
        intro v1 W3 hown1 hgr1
        have BB3 := Lib.hid (BB2.out.grown hgr1 BB2.out.size (fun k hk => (HE2.out.lt k hk).1))
        have LB3 := Lib.hid (L2.out.step BB3.out)
        have HO3 := Lib.hid (show W3.ownsRow w2.heap.size 61 17 v1 l.length (cellsOf ec l) by simpa using hown1)
        have HM3 := Lib.hid ((hgr1.block W1.heap.size (lt_of_block HM2.out) (fun e => hne (Option.some.inj e))).trans HM2.out)
        refine hK.out _ _ LB3.out.mm (fun hh4 => ?_)
        clear hK K hh5 hown1 hgr1
        simp only [Act.put, List.setIfInBounds_toArray, List.set_cons_zero, List.set_cons_succ]
        refine wpAnyH_ready (fuel := 3) (rs := [10]) (by kernel_rfl) (by simp) ?_
        refine AllReadyH.cons (o := ⟨some 33, _, _, _, _, _⟩) rfl (fun K hK => ?_) AllReadyH.nil
        refine step_append_lies _ rfl (.tmp 29) (.tmp 32) 48 rfl w2.heap.size 61 i0 (.agg (ecells e0)) 17 152 Try.underlying48 hi0 hz0 hz1 hz2 rfl (by decide) v1 l.length (cellsOf ec l) rfl HO3.out ⟨W1.heap.size, 0, none⟩ 1 1 (ec (⟨m, false, [], none, 0⟩ : Ep)) rfl rfl (World.news_of_block (cs := ecells (⟨m, false, [], none, 0⟩ : Ep)) (t := 61) (fr := (0, 0)) HM3.out) (ec_one _) (by omega) (by unfold maxLen; omega) (by omega) BB3.out.size _ rfl ?_
        intro gg cap2 W4 hown2 hgr2 hat hlt2
        have BB4 := Lib.hid (BB3.out.grown hgr2 BB3.out.size (fun k hk => (HO3.out.lt k hk).1))
        have LB4 := Lib.hid (L2.out.step BB4.out)
        refine hK.out _ _ LB4.out.mm (fun hh2 => ?_)
        clear hK K hh4 hgr2 hat hlt2
        simp only [Act.put, List.setIfInBounds_toArray, List.set_cons_zero, List.set_cons_succ]
        refine wpAnyH_take (fuel := 2) (i := 11) (oi := ⟨some 34, _, _, _, _, _⟩) (v := .pointer (some ⟨b, 0, none⟩)) rfl (by kernel_rfl) (by kernel_rfl) (by kernel_rfl) (fun _ _ _ h => h) (Or.inl ⟨by rfl, ?_⟩) hh2 ?_
        · intro w' hw'
          go_simp
        simp only [Act.put, List.setIfInBounds_toArray, List.set_cons_zero, List.set_cons_succ]
        refine wpAnyH_take (fuel := 1) (i := 12) (oi := ⟨some 35, _, _, _, _, _⟩) (v := .pointer (some ⟨b, 1, none⟩)) rfl (by kernel_rfl) (by kernel_rfl) (by kernel_rfl) (fun _ _ _ h => h) (Or.inl ⟨by rfl, ?_⟩) hh2 ?_
        · intro w' hw'
          go_simp
        simp only [Act.put, List.setIfInBounds_toArray, List.set_cons_zero, List.set_cons_succ]
        refine wpAnyH_ready (fuel := 0) (rs := [13]) (by kernel_rfl) (by simp) ?_
        refine AllReadyH.cons (o := ⟨none, _, _, _, _, _⟩) rfl (fun K hK => ?_) AllReadyH.nil
        have hc1 := HC.out _ BB4.out
        have hf1 := HFZ.out _ BB4.out
        go_simp
        show K _ _
        refine hK.out _ _ (fun o => (World.cell?_of_block (heap_setCell_other _ _ _ _ HNE2.out)).trans (LB4.out.mm o)) (fun _ => ?_)
        clear hK K hh2 hc1 hf1
        refine wpAnyH_done (by kernel_rfl) ?_ _
        refine NoPanic.normal ?_
        have HG := Lib.hid (HT.out _ BB4.out _ hown2)
        clear hown2
        go_wp2
        go_ret
        exact ⟨rfl, HG.out⟩
    · skip
      go_simp
      show K _ (W0.alloc (.cells (ecells (⟨m, false, [], none, 0⟩ : Ep)) 61))
      obtain ⟨W1, hW⟩ : ∃ X, X = W0.alloc (.cells (ecells (⟨m, false, [], none, 0⟩ : Ep)) 61) := ⟨_, rfl⟩
      rw [← hW]
      have hbb : Below W0.heap.size W0 W1 := by rw [hW]; exact (Below.refl _ _).alloc (Nat.le_refl _) _
      have BB1 := Lib.hid (bstep BB0.out hbb)
      have LB1 := Lib.hid (L2.out.step BB1.out)
      have HM1 := Lib.hid (show W1.heap[W0.heap.size]? = some (.cells (ecells (⟨m, false, [], none, 0⟩ : Ep)) 61 (0, 0)) by rw [hW]; exact heap_alloc_new W0 _)
      show K _ _
      refine hK.out _ _ LB1.out.mm (fun hh6 => ?_)
      clear hK K hh7 hbb hW
      refine wpAnyH_ready (fuel := 5) (rs := [1]) (by kernel_rfl) (by simp) ?_
      refine AllReadyH.cons (o := ⟨some 24, _, _, _, _, _⟩) rfl (fun K hK => ?_) AllReadyH.nil
      go_simp
      obtain ⟨W2, hW⟩ : ∃ X, X = W1.alloc (.cells #[] 61) := ⟨_, rfl⟩
      rw [← hW]
      have hbb : Below W1.heap.size W1 W2 := by rw [hW]; exact (Below.refl _ _).alloc (Nat.le_refl _) _
      have BB2 := Lib.hid (bstep BB1.out hbb)
      have LB2 := Lib.hid (L2.out.step BB2.out)
      have HE2 := Lib.hid (show W2.ownsRow w2.heap.size 61 17 (.slice (some ⟨W1.heap.size, 0, none⟩) 0 0) 0 [] by rw [hW]; exact World.ownsRow_made W1 #[] 0 BB1.out.size (Nat.zero_le _) rfl)
      have HM2 := Lib.hid ((hbb.block _ (lt_of_block HM1.out)).trans HM1.out)
      have hne : W0.heap.size ≠ W1.heap.size := by have := lt_of_block HM1.out; omega
      show K _ _
      refine hK.out _ _ LB2.out.mm (fun hh5 => ?_)
      clear hK K hh6 hbb hW
      refine wpAnyH_ready (fuel := 4) (rs := [6]) (by kernel_rfl) (by simp) ?_
      refine AllReadyH.cons (o := ⟨some 29, _, _, _, _, _⟩) rfl (fun K hK => ?_) AllReadyH.nil
      refine step_append_sn rfl (.tmp 24) (.tmp 28) 48 rfl w2.heap.size 61 i0 (.agg (ecells e0)) 17 152 Try.underlying48 hi0 hz0 hz1 hz2 rfl (by decide) _ 0 [] rfl HE2.out p l.length cap (cellsOf ec l) rfl HLN.out (HPP.out _ BB2.out) (ecs_one l) (by unfold maxLen; omega) (by omega) BB2.out.size ?_
      intro v1 W3 hown1 hgr1
      have BB3 := Lib.hid (BB2.out.grown hgr1 BB2.out.size (fun k hk => (HE2.out.lt k hk).1))
      have LB3 := Lib.hid (L2.out.step BB3.out)
      have HO3 := Lib.hid (show W3.ownsRow w2.heap.size 61 17 v1 l.length (cellsOf ec l) by simpa using hown1)
      have HM3 := Lib.hid ((hgr1.block W0.heap.size (lt_of_block HM2.out) (fun e => hne (Option.some.inj e))).trans HM2.out)
      refine hK.out _ _ LB3.out.mm (fun hh4 => ?_)
      clear hK K hh5 hown1 hgr1
      simp only [Act.put, List.setIfInBounds_toArray, List.set_cons_zero, List.set_cons_succ]
      refine wpAnyH_ready (fuel := 3) (rs := [10]) (by kernel_rfl) (by simp) ?_
      refine AllReadyH.cons (o := ⟨some 33, _, _, _, _, _⟩) rfl (fun K hK => ?_) AllReadyH.nil
      refine step_append_lies _ rfl (.tmp 29) (.tmp 32) 48 rfl w2.heap.size 61 i0 (.agg (ecells e0)) 17 152 Try.underlying48 hi0 hz0 hz1 hz2 rfl (by decide) v1 l.length (cellsOf ec l) rfl HO3.out ⟨W0.heap.size, 0, none⟩ 1 1 (ec (⟨m, false, [], none, 0⟩ : Ep)) rfl rfl (World.news_of_block (cs := ecells (⟨m, false, [], none, 0⟩ : Ep)) (t := 61) (fr := (0, 0)) HM3.out) (ec_one _) (by omega) (by unfold maxLen; omega) (by omega) BB3.out.size _ rfl ?_
      intro gg cap2 W4 hown2 hgr2 hat hlt2
      have BB4 := Lib.hid (BB3.out.grown hgr2 BB3.out.size (fun k hk => (HO3.out.lt k hk).1))
      have LB4 := Lib.hid (L2.out.step BB4.out)
      refine hK.out _ _ LB4.out.mm (fun hh2 => ?_)
      clear hK K hh4 hgr2 hat hlt2
      simp only [Act.put, List.setIfInBounds_toArray, List.set_cons_zero, List.set_cons_succ]
      refine wpAnyH_take (fuel := 2) (i := 11) (oi := ⟨some 34, _, _, _, _, _⟩) (v := .pointer (some ⟨b, 0, none⟩)) rfl (by kernel_rfl) (by kernel_rfl) (by kernel_rfl) (fun _ _ _ h => h) (Or.inl ⟨by rfl, ?_⟩) hh2 ?_
      · intro w' hw'
        go_simp
      simp only [Act.put, List.setIfInBounds_toArray, List.set_cons_zero, List.set_cons_succ]
      refine wpAnyH_take (fuel := 1) (i := 12) (oi := ⟨some 35, _, _, _, _, _⟩) (v := .pointer (some ⟨b, 1, none⟩)) rfl (by kernel_rfl) (by kernel_rfl) (by kernel_rfl) (fun _ _ _ h => h) (Or.inl ⟨by rfl, ?_⟩) hh2 ?_
      · intro w' hw'
        go_simp
      simp only [Act.put, List.setIfInBounds_toArray, List.set_cons_zero, List.set_cons_succ]
      refine wpAnyH_ready (fuel := 0) (rs := [13]) (by kernel_rfl) (by simp) ?_
      refine AllReadyH.cons (o := ⟨none, _, _, _, _, _⟩) rfl (fun K hK => ?_) AllReadyH.nil
      have hc1 := HC.out _ BB4.out
      have hf1 := HFZ.out _ BB4.out
      go_simp
      show K _ _
      refine hK.out _ _ (fun o => (World.cell?_of_block (heap_setCell_other _ _ _ _ HNE2.out)).trans (LB4.out.mm o)) (fun _ => ?_)
      clear hK K hh2 hc1 hf1
      refine wpAnyH_done (by kernel_rfl) ?_ _
      refine NoPanic.normal ?_
      have HG := Lib.hid (HT.out _ BB4.out _ hown2)
      clear hown2
      go_wp2
      go_ret
      exact ⟨rfl, HG.out⟩
  · skip
    go_simp
    show K _ (W0.alloc (.cells (ecells (⟨m, false, [], none, 0⟩ : Ep)) 61))
    obtain ⟨W1, hW⟩ : ∃ X, X = W0.alloc (.cells (ecells (⟨m, false, [], none, 0⟩ : Ep)) 61) := ⟨_, rfl⟩
    rw [← hW]
    have hbb : Below W0.heap.size W0 W1 := by rw [hW]; exact (Below.refl _ _).alloc (Nat.le_refl _) _
    have BB1 := Lib.hid (bstep BB0.out hbb)
    have LB1 := Lib.hid (L2.out.step BB1.out)
    have HM1 := Lib.hid (show W1.heap[W0.heap.size]? = some (.cells (ecells (⟨m, false, [], none, 0⟩ : Ep)) 61 (0, 0)) by rw [hW]; exact heap_alloc_new W0 _)
    show K _ _
    refine hK.out _ _ LB1.out.mm (fun hh7 => ?_)
    clear hK K hh hbb hW
    refine wpAnyH_ready (fuel := 6) (rs := [1, 5]) (by kernel_rfl) (by simp) ?_
    refine AllReadyH.cons (o := ⟨some 24, _, _, _, _, _⟩) rfl (fun K hK => ?_) (AllReadyH.cons (o := ⟨some 28, _, _, _, _, _⟩) rfl (fun K hK => ?_) AllReadyH.nil)
    · skip
      go_simp
      obtain ⟨W2, hW⟩ : ∃ X, X = W1.alloc (.cells #[] 61) := ⟨_, rfl⟩
      rw [← hW]
      have hbb : Below W1.heap.size W1 W2 := by rw [hW]; exact (Below.refl _ _).alloc (Nat.le_refl _) _
      have BB2 := Lib.hid (bstep BB1.out hbb)
      have LB2 := Lib.hid (L2.out.step BB2.out)
      have HE2 := Lib.hid (show W2.ownsRow w2.heap.size 61 17 (.slice (some ⟨W1.heap.size, 0, none⟩) 0 0) 0 [] by rw [hW]; exact World.ownsRow_made W1 #[] 0 BB1.out.size (Nat.zero_le _) rfl)
      have HM2 := Lib.hid ((hbb.block _ (lt_of_block HM1.out)).trans HM1.out)
      have hne : W0.heap.size ≠ W1.heap.size := by have := lt_of_block HM1.out; omega
      show K _ _
      refine hK.out _ _ LB2.out.mm (fun hh6 => ?_)
      clear hK K hh7 hbb hW
      refine wpAnyH_ready (fuel := 5) (rs := [5]) (by kernel_rfl) (by simp) ?_
      refine AllReadyH.cons (o := ⟨some 28, _, _, _, _, _⟩) rfl (fun K hK => ?_) AllReadyH.nil
      have hc1 := HC.out _ BB2.out
      go_simp
      show K _ _
      refine hK.out _ _ LB2.out.mm (fun hh5 => ?_)
      clear hK K hh6 hc1
      refine wpAnyH_ready (fuel := 4) (rs := [6]) (by kernel_rfl) (by simp) ?_
      refine AllReadyH.cons (o := ⟨some 29, _, _, _, _, _⟩) rfl (fun K hK => ?_) AllReadyH.nil
      refine step_append_sn rfl (.tmp 24) (.tmp 28) 48 rfl w2.heap.size 61 i0 (.agg (ecells e0)) 17 152 Try.underlying48 hi0 hz0 hz1 hz2 rfl (by decide) _ 0 [] rfl HE2.out p l.length cap (cellsOf ec l) rfl HLN.out (HPP.out _ BB2.out) (ecs_one l) (by unfold maxLen; omega) (by omega) BB2.out.size ?_
      intro v1 W3 hown1 hgr1
      have BB3 := Lib.hid (BB2.out.grown hgr1 BB2.out.size (fun k hk => (HE2.out.lt k hk).1))
      have LB3 := Lib.hid (L2.out.step BB3.out)
      have HO3 := Lib.hid (show W3.ownsRow w2.heap.size 61 17 v1 l.length (cellsOf ec l) by simpa using hown1)
      have HM3 := Lib.hid ((hgr1.block W0.heap.size (lt_of_block HM2.out) (fun e => hne (Option.some.inj e))).trans HM2.out)
      refine hK.out _ _ LB3.out.mm (fun hh4 => ?_)
      clear hK K hh5 hown1 hgr1
      simp only [Act.put, List.setIfInBounds_toArray, List.set_cons_zero, List.set_cons_succ]
      refine wpAnyH_ready (fuel := 3) (rs := [10]) (by kernel_rfl) (by simp) ?_
      refine AllReadyH.cons (o := ⟨some 33, _, _, _, _, _⟩) rfl (fun K hK => ?_) AllReadyH.nil
      refine step_append_lies _ rfl (.tmp 29) (.tmp 32) 48 rfl w2.heap.size 61 i0 (.agg (ecells e0)) 17 152 Try.underlying48 hi0 hz0 hz1 hz2 rfl (by decide) v1 l.length (cellsOf ec l) rfl HO3.out ⟨W0.heap.size, 0, none⟩ 1 1 (ec (⟨m, false, [], none, 0⟩ : Ep)) rfl rfl (World.news_of_block (cs := ecells (⟨m, false, [], none, 0⟩ : Ep)) (t := 61) (fr := (0, 0)) HM3.out) (ec_one _) (by omega) (by unfold maxLen; omega) (by omega) BB3.out.size _ rfl ?_
      intro gg cap2 W4 hown2 hgr2 hat hlt2
      have BB4 := Lib.hid (BB3.out.grown hgr2 BB3.out.size (fun k hk => (HO3.out.lt k hk).1))
      have LB4 := Lib.hid (L2.out.step BB4.out)
      refine hK.out _ _ LB4.out.mm (fun hh2 => ?_)
      clear hK K hh4 hgr2 hat hlt2
      simp only [Act.put, List.setIfInBounds_toArray, List.set_cons_zero, List.set_cons_succ]
      refine wpAnyH_take (fuel := 2) (i := 11) (oi := ⟨some 34, _, _, _, _, _⟩) (v := .pointer (some ⟨b, 0, none⟩)) rfl (by kernel_rfl) (by kernel_rfl) (by kernel_rfl) (fun _ _ _ h => h) (Or.inl ⟨by rfl, ?_⟩) hh2 ?_
      · intro w' hw'
        go_simp
      simp only [Act.put, List.setIfInBounds_toArray, List.set_cons_zero, List.set_cons_succ]
      refine wpAnyH_take (fuel := 1) (i := 12) (oi := ⟨some 35, _, _, _, _, _⟩) (v := .pointer (some ⟨b, 1, none⟩)) rfl (by kernel_rfl) (by kernel_rfl) (by kernel_rfl) (fun _ _ _ h => h) (Or.inl ⟨by rfl, ?_⟩) hh2 ?_
      · intro w' hw'
        go_simp
      simp only [Act.put, List.setIfInBounds_toArray, List.set_cons_zero, List.set_cons_succ]
      refine wpAnyH_ready (fuel := 0) (rs := [13]) (by kernel_rfl) (by simp) ?_
      refine AllReadyH.cons (o := ⟨none, _, _, _, _, _⟩) rfl (fun K hK => ?_) AllReadyH.nil
      have hc1 := HC.out _ BB4.out
      have hf1 := HFZ.out _ BB4.out
      go_simp
      show K _ _
      refine hK.out _ _ (fun o => (World.cell?_of_block (heap_setCell_other _ _ _ _ HNE2.out)).trans (LB4.out.mm o)) (fun _ => ?_)
      clear hK K hh2 hc1 hf1
      refine wpAnyH_done (by kernel_rfl) ?_ _
      refine NoPanic.normal ?_
      have HG := Lib.hid (HT.out _ BB4.out _ hown2)
      clear hown2
      go_wp2
      go_ret
      exact ⟨rfl, HG.out⟩
    · skip
      have hc1 := HC.out _ BB1.out
      go_simp
      show K _ _
      refine hK.out _ _ LB1.out.mm (fun hh6 => ?_)
      clear hK K hh7 hc1
      refine wpAnyH_ready (fuel := 5) (rs := [1]) (by kernel_rfl) (by simp) ?_
      refine AllReadyH.cons (o := ⟨some 24, _, _, _, _, _⟩) rfl (fun K hK => ?_) AllReadyH.nil
      go_simp
      obtain ⟨W2, hW⟩ : ∃ X, X = W1.alloc (.cells #[] 61) := ⟨_, rfl⟩
      rw [← hW]
      have hbb : Below W1.heap.size W1 W2 := by rw [hW]; exact (Below.refl _ _).alloc (Nat.le_refl _) _
      have BB2 := Lib.hid (bstep BB1.out hbb)
      have LB2 := Lib.hid (L2.out.step BB2.out)
      have HE2 := Lib.hid (show W2.ownsRow w2.heap.size 61 17 (.slice (some ⟨W1.heap.size, 0, none⟩) 0 0) 0 [] by rw [hW]; exact World.ownsRow_made W1 #[] 0 BB1.out.size (Nat.zero_le _) rfl)
      have HM2 := Lib.hid ((hbb.block _ (lt_of_block HM1.out)).trans HM1.out)
      have hne : W0.heap.size ≠ W1.heap.size := by have := lt_of_block HM1.out; omega
      show K _ _
      refine hK.out _ _ LB2.out.mm (fun hh5 => ?_)
      clear hK K hh6 hbb hW
      refine wpAnyH_ready (fuel := 4) (rs := [6]) (by kernel_rfl) (by simp) ?_
      refine AllReadyH.cons (o := ⟨some 29, _, _, _, _, _⟩) rfl (fun K hK => ?_) AllReadyH.nil
      refine step_append_sn rfl (.tmp 24) (.tmp 28) 48 rfl w2.heap.size 61 i0 (.agg (ecells e0)) 17 152 Try.underlying48 hi0 hz0 hz1 hz2 rfl (by decide) _ 0 [] rfl HE2.out p l.length cap (cellsOf ec l) rfl HLN.out (HPP.out _ BB2.out) (ecs_one l) (by unfold maxLen; omega) (by omega) BB2.out.size ?_
      intro v1 W3 hown1 hgr1
      have BB3 := Lib.hid (BB2.out.grown hgr1 BB2.out.size (fun k hk => (HE2.out.lt k hk).1))
      have LB3 := Lib.hid (L2.out.step BB3.out)
      have HO3 := Lib.hid (show W3.ownsRow w2.heap.size 61 17 v1 l.length (cellsOf ec l) by simpa using hown1)
      have HM3 := Lib.hid ((hgr1.block W0.heap.size (lt_of_block HM2.out) (fun e => hne (Option.some.inj e))).trans HM2.out)
      refine hK.out _ _ LB3.out.mm (fun hh4 => ?_)
      clear hK K hh5 hown1 hgr1
      simp only [Act.put, List.setIfInBounds_toArray, List.set_cons_zero, List.set_cons_succ]
      refine wpAnyH_ready (fuel := 3) (rs := [10]) (by kernel_rfl) (by simp) ?_
      refine AllReadyH.cons (o := ⟨some 33, _, _, _, _, _⟩) rfl (fun K hK => ?_) AllReadyH.nil
      refine step_append_lies _ rfl (.tmp 29) (.tmp 32) 48 rfl w2.heap.size 61 i0 (.agg (ecells e0)) 17 152 Try.underlying48 hi0 hz0 hz1 hz2 rfl (by decide) v1 l.length (cellsOf ec l) rfl HO3.out ⟨W0.heap.size, 0, none⟩ 1 1 (ec (⟨m, false, [], none, 0⟩ : Ep)) rfl rfl (World.news_of_block (cs := ecells (⟨m, false, [], none, 0⟩ : Ep)) (t := 61) (fr := (0, 0)) HM3.out) (ec_one _) (by omega) (by unfold maxLen; omega) (by omega) BB3.out.size _ rfl ?_
      intro gg cap2 W4 hown2 hgr2 hat hlt2
      have BB4 := Lib.hid (BB3.out.grown hgr2 BB3.out.size (fun k hk => (HO3.out.lt k hk).1))
      have LB4 := Lib.hid (L2.out.step BB4.out)
      refine hK.out _ _ LB4.out.mm (fun hh2 => ?_)
      clear hK K hh4 hgr2 hat hlt2
      simp only [Act.put, List.setIfInBounds_toArray, List.set_cons_zero, List.set_cons_succ]
      refine wpAnyH_take (fuel := 2) (i := 11) (oi := ⟨some 34, _, _, _, _, _⟩) (v := .pointer (some ⟨b, 0, none⟩)) rfl (by kernel_rfl) (by kernel_rfl) (by kernel_rfl) (fun _ _ _ h => h) (Or.inl ⟨by rfl, ?_⟩) hh2 ?_
      · intro w' hw'
        go_simp
      simp only [Act.put, List.setIfInBounds_toArray, List.set_cons_zero, List.set_cons_succ]
      refine wpAnyH_take (fuel := 1) (i := 12) (oi := ⟨some 35, _, _, _, _, _⟩) (v := .pointer (some ⟨b, 1, none⟩)) rfl (by kernel_rfl) (by kernel_rfl) (by kernel_rfl) (fun _ _ _ h => h) (Or.inl ⟨by rfl, ?_⟩) hh2 ?_
      · intro w' hw'
        go_simp
      simp only [Act.put, List.setIfInBounds_toArray, List.set_cons_zero, List.set_cons_succ]
      refine wpAnyH_ready (fuel := 0) (rs := [13]) (by kernel_rfl) (by simp) ?_
      refine AllReadyH.cons (o := ⟨none, _, _, _, _, _⟩) rfl (fun K hK => ?_) AllReadyH.nil
      have hc1 := HC.out _ BB4.out
      have hf1 := HFZ.out _ BB4.out
      go_simp
      show K _ _
      refine hK.out _ _ (fun o => (World.cell?_of_block (heap_setCell_other _ _ _ _ HNE2.out)).trans (LB4.out.mm o)) (fun _ => ?_)
      clear hK K hh2 hc1 hf1
      refine wpAnyH_done (by kernel_rfl) ?_ _
      refine NoPanic.normal ?_
      have HG := Lib.hid (HT.out _ BB4.out _ hown2)
      clear hown2
      go_wp2
      go_ret
      exact ⟨rfl, HG.out⟩

/-- What a call of the document's gives that answers with a number. -/
def GaveD (w : World) (B b : Nat) (room : Int) (l : List Ep) (v : Value) (r : Int × List En) (e : Ending) (w' : World) : Prop := e = .returned (.int .i64 r.1) ∧ QGave 53 61 w B b room l v r.2 w'
/-- The document's Add. -/
theorem refAdd_any {w : World} {B b : Nat} {room : Int} {l : List Ep} {v : Value} (h : QuR w B b room l v) (m : Msg) (hB : B ≤ w.heap.size) (h2 : room ≤ 16) (hl : (l.length : Int) ≤ room) :
    Calls Try.prog 11 #[.pointer (some ⟨b, 0, none⟩), mv m] w (GaveD w B b room l v (addP room (l.map Ep.pl) m)) := by
  rcases Bool.eq_false_or_eq_true (rq m.kd) with hk | hk
  · by_cases hf : (l.length : Int) = room
    · rw [addP_full hk (by rw [pl_len]; exact hf)]
      exact (refAdd_full h.bg m hk hf).mono fun e w' ⟨he, hb⟩ => ⟨he, h.gave_same hb⟩
    · rw [addP_yes hk (by rw [pl_len]; exact hf)]
      refine (refAdd_yes h.bg m hB hk (by omega) h2).mono fun e w' ⟨he, hp⟩ => ⟨he, ?_⟩
      have := h.gaveOld hp (fun x hx => by
        rcases List.mem_append.1 hx with hx | hx
        · exact h.cp x hx
        · obtain rfl : x = ⟨m, false, [], none, 0⟩ := by simpa using hx
          simp) fun x hx hne => by
        rcases List.mem_append.1 hx with hx | hx
        · exact h.of_mem hx hne
        · obtain rfl : x = ⟨m, false, [], none, 0⟩ := by simpa using hx
          exact absurd rfl hne
      simpa [Ep.pl] using this
  · rw [addP_kind hk]
    exact (refAdd_kind m hk).mono fun e w' ⟨he, hb⟩ => ⟨he, h.gave_same hb⟩

end Go.Proofs.Ytnpbbkiojoafbaa
