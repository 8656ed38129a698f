/-
  What Send of the document's net does, where the message is sent.
-/
import Derived.Test.YtdggjbaapnkcgaaNtU
import Derived.Laws.AppendOwnNone
namespace Go.Proofs.Ytdggjbaapnkcgaa
open Go Go.RowKit Go.Sort

/-- append of a slice that may be none, to a row of the call's own, as a step of a region. -/
theorem step_append_sn {P : Program} {ops : Array Oper} {o : Oper} {a : Act} {w : World} {K : Act → World → Prop} {Q : Exit → Act → World → Prop} {E : Prop} (hgd : o.guard = none) (s x : Operand) (t : TypeId)
    (ho : o.op = .call { callee := .builtin .append, args := #[s, x], argTypes := #[t, t] })
    (base : Nat) (e : TypeId) (i : TypeInfo) (z : Value) (size bytes : Nat) (ht : P.underlying t = some (.slice e)) (hi : P.info? e = some i) (hz : i.zero = some z)
    (hsize : i.size = size) (hby : i.bytes = bytes) (hzs : z.cells.size = size) (hsz : 0 < size)
    (v : Value) (n : Nat) (xs : List Value) (hs : a.eval s = v) (hown : w.ownsRow base e size v n xs)
    (p : Option Addr) (m c : Nat) (news : List Value) (hx : a.eval x = .slice p m c) (hl : news.length = m * size) (hp : (p = none ∧ m = 0 ∧ c = 0) ∨ ∃ ad, p = some ad ∧ ∀ j u, news[j]? = some u → w.cell? (ad.add j) = some u) (h1 : ∀ u ∈ news, u.oneCell' = true)
    (h63 : n + m ≤ maxLen) (hbytes : (n + m) * bytes ≤ 140737488355328) (hbase : base ≤ w.heap.size)
    (h : ∀ v' w', w'.ownsRow base e size v' (n + m) (xs ++ news) → w.grownBy w' v.ownBlock → K (a.put o.dst v') w') :
    if Region.wanted o (yielded ops a.tmps) = true then Oper.wp P o a w K Q else E := by
  have hw : Region.wanted o (yielded ops a.tmps) = true := by simp [Region.wanted, hgd]
  rw [if_pos hw]
  rcases hp with ⟨rfl, rfl, rfl⟩ | ⟨ad, rfl, hc⟩
  · have hn : news = [] := List.eq_nil_of_length_eq_zero (by rw [hl]; simp)
    subst hn
    have hrun := run_append_owned_none (P := P) (w := w) base t o.type e i size ht hi v n xs hown
    unfold Oper.wp
    simp [execOp, ho, resolve, invoke, builtin, hs, hx, hrun, Result.andThen]
    exact h v w (by simpa using hown) ⟨rfl, rfl, rfl, Nat.le_refl _, fun _ _ _ => rfl⟩
  · obtain ⟨v', w', hrun, r1, r2, _⟩ := run_append_own (P := P) w base t o.type e i z size bytes ht hi hz hsize hby hzs hsz v n xs hown ad m c news hl hc h1 h63 hbytes hbase
    unfold Oper.wp
    simp [execOp, ho, resolve, invoke, builtin, hs, hx, hrun, Result.andThen]
    exact h v' w' r1 r2

theorem RefGave.mono {w wa w1 : World} {B r : Nat} {c : Cfg} {l' : Nat → List Msg} {u : Nat → Value} (ha : Below w.heap.size w wa) (hg : RefGave wa B r c l' u w1) : RefGave w B r c l' u w1 := by
  obtain ⟨u', h1, ht, hf⟩ := hg
  have hs := ha.size
  refine ⟨u', h1, ⟨ht.os.trans ha.os, ht.tape.trans ha.tape, ht.output.trans ha.output, Nat.le_trans hs ht.size, fun k hk hF => (ht.other k (by omega) hF).trans (ha.block k hk)⟩, fun k hk => ?_⟩
  rcases hf k hk with e | e
  · exact .inl e
  · exact .inr (by omega)
variable {w : World} {B r : Nat} {c : Cfg} {l : Nat → List Msg} {u : Nat → Value}
set_option maxRecDepth 100000 in
set_option maxHeartbeats 4000000 in
theorem rsend_ok (h : RefP w B r c l u) (hB : B ≤ w.heap.size) (m : Msg) (j : Nat) (hj : j < 3) (hm : mayM c m = true) (hnet : net m.kd = j) (hl : ((l j).length : Int) < room c j) :
    Calls Try.prog 13 #[.pointer (some ⟨r, 0, none⟩), mv m] w fun e w' => e = .returned (.int .i64 0) ∧ RefGave w B r c (upd l j (l j ++ [m])) u w' := by
  obtain ⟨i0, hi0, hz0, hz1, hz2⟩ := info_parts A52
  have HM := Lib.hid (fun w => refMay_any c m w)
  have L0 := Lib.hid (RM.new h m)
  have HP := Lib.hid h
  have hn := L0.out.nn
  have hmc := L0.out.mm
  have hN64 := h.len64 j hj
  have hR64 := (room_le h.ok j hj).2
  have HNE := Lib.hid hnet
  have h3 : (j : Int) < 3 := by omega
  have h4 : (0 : Int) ≤ (j : Int) := by omega
  have HJ := Lib.hid hj
  have HL := Lib.hid hl
  clear h hnet hj hl
  go_enter Try.func13, Try.ntmps13
  go_wp2_with fail
  go_region_held3 (fun w' => (∀ o, w'.cell? ⟨r, o, none⟩ = (mkcells c (u 0) (u 1) (u 2))[o]?) ∧ (∀ o, w'.cell? ⟨w.heap.size, o, none⟩ = (mcells m)[o]?))
    (first | exact ⟨L1.out.nn, L1.out.mm⟩ | exact ⟨L0.out.nn, L0.out.mm⟩ | go_keep)
    (first
      | (go_at_call 23; refine (HM.out _).mono ?_; rintro e w1 ⟨rfl, hb1⟩; rw [hm]; have L1 := (by first | exact Lib.hid (L0.out.step hb1) | exact Lib.hid (L0.out.drew.step hb1)); clear hb1))
  all_goals
    clear hn hmc
    have hmc := L1.out.mm
    go_wp2_with fail
    refine (refNet_any _ _).mono ?_
    rintro e w2 ⟨rfl, hb2⟩
    rw [HNE.out]
    have L2 := Lib.hid (L1.out.step hb2)
    clear hb2 hmc L1
    obtain ⟨p, cap, hup, c1, c2, -, -⟩ := (HP.out.below L2.out.below).cells j HJ.out
    have HU := Lib.hid hup
    clear hup
    obtain ⟨N, hN⟩ : ∃ N, N = (l j).length := ⟨_, rfl⟩
    obtain ⟨R, hR⟩ : ∃ R, R = room c j := ⟨_, rfl⟩
    have hNR : (N : Int) < R := by rw [hN, hR]; exact HL.out
    rw [← hR] at c2 hR64
    rw [← hN] at c1 hN64
    have HN := Lib.hid hN
    have HR := Lib.hid hR
    clear hR hN
    go_wp2_with fail
    go_quiet (fail)
    go_wp2_with fail
    have hlt2 := L2.out.lt
    have hB2 := L2.out.below.size
    have hrl : r < w2.heap.size := Nat.lt_trans L2.out.lt L2.out.gt
    have HC : Hid (∀ X, Below w2.heap.size w2 X → X.cell? ⟨r, 13 + j, none⟩ = some (.slice p N cap)) := Lib.hid (fun X hb => (hb.cell (p := ⟨r, 13 + j, none⟩) hrl).trans c1)
    have HFZ : Hid (∀ X, Below w2.heap.size w2 X → X.frozen? ⟨r, 13 + j, none⟩ = false) := Lib.hid (fun X hb => blk_free ((hb.block r hrl).trans (HP.out.below L2.out.below).blk) _)
    have HLN : Hid ((cellsOf mg (l j)).length = N * 15) := Lib.hid (by rw [cellsOf_len mg_len, HN.out])
    have HPP : Hid (∀ X, Below w2.heap.size w2 X → (p = none ∧ N = 0 ∧ cap = 0) ∨ ∃ ad, p = some ad ∧ ∀ q x, (cellsOf mg (l j))[q]? = some x → X.cell? (ad.add q) = some x) := Lib.hid (fun X hb => by
      have hrow := (HP.out.below L2.out.below).row j HJ.out
      rw [HU.out, ← HN.out] at hrow
      have hrow' := own_below hrow hb
      rcases hrow'.2 with ⟨e, h0⟩ | ⟨g, cp, cur, e, _⟩
      · simp only [Value.slice.injEq] at e
        exact .inl ⟨e.1, h0, e.2.2⟩
      · simp only [Value.slice.injEq] at e
        obtain ⟨rfl, -, rfl⟩ := e
        exact .inr ⟨_, rfl, fun q x hx => hrow'.cells rfl q x hx⟩)
    have HNE2 : Hid (w.heap.size ≠ r) := Lib.hid (by omega)
    have HT : Hid (∀ X, Below w2.heap.size w2 X → ∀ y, X.ownsRow w2.heap.size 37 15 y (N + 1) (cellsOf mg (l j) ++ mg m) → RefGave w B r c (upd l j (l j ++ [m])) u (X.setCell ⟨r, 13 + j, none⟩ y)) := Lib.hid (fun X hb y hy => RefGave.mono L2.out.below ((HP.out.below L2.out.below).turn (by omega) hb j HJ.out (n := N + 1) (by rw [List.length_append, HN.out]; rfl) (by rw [List.length_append, ← HN.out, ← HR.out]; simp; omega) (by rw [cellsOf_append]; simpa [cellsOf] using hy)))
    obtain ⟨W0, hW⟩ : ∃ X, X = (w2.drewN nq).drew := ⟨_, rfl⟩
    have BB0 : Hid (Below w2.heap.size w2 W0) := Lib.hid (by rw [hW]; exact (below_drewN (Below.refl _ _) _).drew)
    have LB0 := Lib.hid (L2.out.step BB0.out)
    have hS0 := LB0.out.mm
    rw [hW] at hS0
    clear c1 c2 hlt2 hrl
    refine wp_region_noPanic ?_
    refine wp_region_held_drew (S := fun w' => ∀ o, w'.cell? ⟨w.heap.size, o, none⟩ = (mcells m)[o]?) (by kernel_rfl) hS0 (fun hh => ?_)
    rw [← hW] at hh ⊢
    clear hW hS0
    refine wpAnyH_take (fuel := 16) (i := 0) (oi := ⟨some 31, _, _, _, _, _⟩) (v := .pointer (some ⟨r, 0, none⟩)) rfl (by kernel_rfl) (by kernel_rfl) (by kernel_rfl) (fun _ _ _ h => h) (Or.inl ⟨by rfl, ?_⟩) hh ?_
    · intro w' hw'
      go_simp
    simp only [Act.put, List.setIfInBounds_toArray, List.set_cons_zero, List.set_cons_succ]
    refine wpAnyH_take (fuel := 15) (i := 1) (oi := ⟨some 32, _, _, _, _, _⟩) (v := .int .i64 j) rfl (by kernel_rfl) (by kernel_rfl) (by kernel_rfl) (fun _ _ _ h => h) (Or.inl ⟨by rfl, ?_⟩) hh ?_
    · intro w' hw'
      go_simp
    simp only [Act.put, List.setIfInBounds_toArray, List.set_cons_zero, List.set_cons_succ]
    refine wpAnyH_take (fuel := 14) (i := 3) (oi := ⟨some 34, _, _, _, _, _⟩) (v := .pointer (some ⟨r, 0, none⟩)) rfl (by kernel_rfl) (by kernel_rfl) (by kernel_rfl) (fun _ _ _ h => h) (Or.inl ⟨by rfl, ?_⟩) hh ?_
    · intro w' hw'
      go_simp
    simp only [Act.put, List.setIfInBounds_toArray, List.set_cons_zero, List.set_cons_succ]
    refine wpAnyH_take (fuel := 13) (i := 4) (oi := ⟨some 35, _, _, _, _, _⟩) (v := .int .i64 j) rfl (by kernel_rfl) (by kernel_rfl) (by kernel_rfl) (fun _ _ _ h => h) (Or.inl ⟨by rfl, ?_⟩) hh ?_
    · intro w' hw'
      go_simp
    simp only [Act.put, List.setIfInBounds_toArray, List.set_cons_zero, List.set_cons_succ]
    refine wpAnyH_take (fuel := 12) (i := 5) (oi := ⟨some 36, _, _, _, _, _⟩) (v := .pointer (some ⟨r, 0, none⟩)) rfl (by kernel_rfl) (by kernel_rfl) (by kernel_rfl) (fun _ _ _ h => h) (Or.inl ⟨by rfl, ?_⟩) hh ?_
    · intro w' hw'
      go_simp
    simp only [Act.put, List.setIfInBounds_toArray, List.set_cons_zero, List.set_cons_succ]
    refine wpAnyH_take (fuel := 11) (i := 6) (oi := ⟨some 37, _, _, _, _, _⟩) (v := .pointer (some ⟨r, 13, none⟩)) rfl (by kernel_rfl) (by kernel_rfl) (by kernel_rfl) (fun _ _ _ h => h) (Or.inl ⟨by rfl, ?_⟩) hh ?_
    · intro w' hw'
      go_simp
    simp only [Act.put, List.setIfInBounds_toArray, List.set_cons_zero, List.set_cons_succ]
    refine wpAnyH_take (fuel := 10) (i := 7) (oi := ⟨some 38, _, _, _, _, _⟩) (v := .pointer (some ⟨r, 13 + j, none⟩)) rfl (by kernel_rfl) (by kernel_rfl) (by kernel_rfl) (fun _ _ _ h => h) (Or.inl ⟨by rfl, ?_⟩) hh ?_
    · intro w' hw'
      go_simp
    simp only [Act.put, List.setIfInBounds_toArray, List.set_cons_zero, List.set_cons_succ]
    refine wpAnyH_take (fuel := 9) (i := 10) (oi := ⟨some 41, _, _, _, _, _⟩) (v := mv m) rfl (by kernel_rfl) (by kernel_rfl) (by kernel_rfl) (fun _ _ _ h => h) (Or.inl ⟨by rfl, ?_⟩) hh ?_
    · intro w' hw'
      go_simp
    simp only [Act.put, List.setIfInBounds_toArray, List.set_cons_zero, List.set_cons_succ]
    refine wpAnyH_take (fuel := 8) (i := 13) (oi := ⟨some 44, _, _, _, _, _⟩) (v := .pointer (some ⟨r, 0, none⟩)) rfl (by kernel_rfl) (by kernel_rfl) (by kernel_rfl) (fun _ _ _ h => h) (Or.inl ⟨by rfl, ?_⟩) hh ?_
    · intro w' hw'
      go_simp
    simp only [Act.put, List.setIfInBounds_toArray, List.set_cons_zero, List.set_cons_succ]
    refine wpAnyH_take (fuel := 7) (i := 14) (oi := ⟨some 45, _, _, _, _, _⟩) (v := .pointer (some ⟨r, 13, none⟩)) rfl (by kernel_rfl) (by kernel_rfl) (by kernel_rfl) (fun _ _ _ h => h) (Or.inl ⟨by rfl, ?_⟩) hh ?_
    · intro w' hw'
      go_simp
    simp only [Act.put, List.setIfInBounds_toArray, List.set_cons_zero, List.set_cons_succ]
    refine wpAnyH_ready (fuel := 6) (rs := [2, 8, 11]) (by kernel_rfl) (by simp) ?_
    refine AllReadyH.cons (o := ⟨some 33, _, _, _, _, _⟩) rfl (fun K hK => ?_) (AllReadyH.cons (o := ⟨some 39, _, _, _, _, _⟩) rfl (fun K hK => ?_) (AllReadyH.cons (o := ⟨some 42, _, _, _, _, _⟩) rfl (fun K hK => ?_) AllReadyH.nil))
    · skip
      go_simp
      obtain ⟨W1, hW⟩ : ∃ X, X = W0.alloc (.cells #[] 37) := ⟨_, rfl⟩
      rw [← hW]
      have hbb : Below W0.heap.size W0 W1 := by rw [hW]; exact (Below.refl _ _).alloc (Nat.le_refl _) _
      have BB1 := Lib.hid (bstep BB0.out hbb)
      have LB1 := Lib.hid (L2.out.step BB1.out)
      have HE1 := Lib.hid (show W1.ownsRow w2.heap.size 37 15 (.slice (some ⟨W0.heap.size, 0, none⟩) 0 0) 0 [] by rw [hW]; exact World.ownsRow_made W0 #[] 0 BB0.out.size (Nat.zero_le _) rfl)
      show K _ _
      refine hK.out _ _ LB1.out.mm (fun hh6 => ?_)
      clear hK K hh hbb hW
      refine wpAnyH_ready (fuel := 5) (rs := [8, 11]) (by kernel_rfl) (by simp) ?_
      refine AllReadyH.cons (o := ⟨some 39, _, _, _, _, _⟩) rfl (fun K hK => ?_) (AllReadyH.cons (o := ⟨some 42, _, _, _, _, _⟩) rfl (fun K hK => ?_) AllReadyH.nil)
      · skip
        have hc1 := HC.out _ BB1.out
        go_simp
        show K _ _
        refine hK.out _ _ LB1.out.mm (fun hh5 => ?_)
        clear hK K hh6 hc1
        refine wpAnyH_ready (fuel := 4) (rs := [9, 11]) (by kernel_rfl) (by simp) ?_
        refine AllReadyH.cons (o := ⟨some 40, _, _, _, _, _⟩) rfl (fun K hK => ?_) (AllReadyH.cons (o := ⟨some 42, _, _, _, _, _⟩) rfl (fun K hK => ?_) AllReadyH.nil)
        · skip
          refine step_append_sn rfl (.tmp 33) (.tmp 39) 46 rfl w2.heap.size 37 i0 (.agg (mga m0)) 15 120 Try.underlying46 hi0 hz0 hz1 hz2 rfl (by decide) _ 0 [] rfl HE1.out p N cap (cellsOf mg (l j)) rfl HLN.out (HPP.out _ BB1.out) (mg_cells (l j)) (by unfold maxLen; omega) (by omega) BB1.out.size ?_
          intro v1 W2 hown1 hgr1
          have BB2 := Lib.hid (BB1.out.grown hgr1 BB1.out.size (fun k hk => (HE1.out.lt k hk).1))
          have LB2 := Lib.hid (L2.out.step BB2.out)
          have HO2 := Lib.hid (show W2.ownsRow w2.heap.size 37 15 v1 N (cellsOf mg (l j)) by simpa using hown1)
          refine hK.out _ _ LB2.out.mm (fun hh4 => ?_)
          clear hK K hh5 hown1 hgr1
          simp only [Act.put, List.setIfInBounds_toArray, List.set_cons_zero, List.set_cons_succ]
          refine wpAnyH_ready (fuel := 3) (rs := [11]) (by kernel_rfl) (by simp) ?_
          refine AllReadyH.cons (o := ⟨some 42, _, _, _, _, _⟩) rfl (fun K hK => ?_) AllReadyH.nil
          go_simp
          obtain ⟨W3, hW⟩ : ∃ X, X = W2.alloc (.cells (mcells m) 37) := ⟨_, rfl⟩
          rw [← hW]
          have hbb : Below W2.heap.size W2 W3 := by rw [hW]; exact (Below.refl _ _).alloc (Nat.le_refl _) _
          have BB3 := Lib.hid (bstep BB2.out hbb)
          have LB3 := Lib.hid (L2.out.step BB3.out)
          have HM3 := Lib.hid (show W3.heap[W2.heap.size]? = some (.cells (mcells m) 37 (0, 0)) by rw [hW]; exact heap_alloc_new W2 _)
          have HO3 := Lib.hid (own_below HO2.out hbb)
          show K _ _
          refine hK.out _ _ LB3.out.mm (fun hh3 => ?_)
          clear hK K hh4 hbb hW
          refine wpAnyH_ready (fuel := 2) (rs := [12]) (by kernel_rfl) (by simp) ?_
          refine AllReadyH.cons (o := ⟨some 43, _, _, _, _, _⟩) rfl (fun K hK => ?_) AllReadyH.nil
          refine step_append_lies _ rfl (.tmp 40) (.tmp 42) 46 rfl w2.heap.size 37 i0 (.agg (mga m0)) 15 120 Try.underlying46 hi0 hz0 hz1 hz2 rfl (by decide) v1 N (cellsOf mg (l j)) rfl HO3.out ⟨W2.heap.size, 0, none⟩ 1 1 (mg m) rfl rfl (World.news_of_block (cs := mga m) (t := 37) (fr := (0, 0)) HM3.out) (by intro u hu; exact mg_cells [m] u (by simpa [cellsOf] using hu)) (by omega) (by unfold maxLen; omega) (by omega) BB3.out.size _ rfl ?_
          intro gg cap2 W4 hown2 hgr2 hat hlt2
          have BB4 := Lib.hid (BB3.out.grown hgr2 BB3.out.size (fun k hk => (HO3.out.lt k hk).1))
          have LB4 := Lib.hid (L2.out.step BB4.out)
          refine hK.out _ _ LB4.out.mm (fun hh2 => ?_)
          clear hK K hh3 hgr2 hat hlt2
          simp only [Act.put, List.setIfInBounds_toArray, List.set_cons_zero, List.set_cons_succ]
          refine wpAnyH_take (fuel := 1) (i := 15) (oi := ⟨some 46, _, _, _, _, _⟩) (v := .pointer (some ⟨r, 13 + j, none⟩)) rfl (by kernel_rfl) (by kernel_rfl) (by kernel_rfl) (fun _ _ _ h => h) (Or.inl ⟨by rfl, ?_⟩) hh2 ?_
          · intro w' hw'
            go_simp
          simp only [Act.put, List.setIfInBounds_toArray, List.set_cons_zero, List.set_cons_succ]
          refine wpAnyH_ready (fuel := 0) (rs := [16]) (by kernel_rfl) (by simp) ?_
          refine AllReadyH.cons (o := ⟨none, _, _, _, _, _⟩) rfl (fun K hK => ?_) AllReadyH.nil
          have hc1 := HC.out _ BB4.out
          have hf1 := HFZ.out _ BB4.out
          go_simp
          show K _ _
          refine hK.out _ _ (fun o => (World.cell?_of_block (heap_setCell_other _ _ _ _ HNE2.out)).trans (LB4.out.mm o)) (fun _ => ?_)
          clear hK K hh2 hc1 hf1
          refine wpAnyH_done (by kernel_rfl) ?_ _
          refine NoPanic.normal ?_
          have HG := Lib.hid (HT.out _ BB4.out _ hown2)
          clear hown2
          go_wp2
          go_ret
          exact ⟨rfl, HG.out⟩
        · skip
          go_simp
          obtain ⟨W2, hW⟩ : ∃ X, X = W1.alloc (.cells (mcells m) 37) := ⟨_, rfl⟩
          rw [← hW]
          have hbb : Below W1.heap.size W1 W2 := by rw [hW]; exact (Below.refl _ _).alloc (Nat.le_refl _) _
          have BB2 := Lib.hid (bstep BB1.out hbb)
          have LB2 := Lib.hid (L2.out.step BB2.out)
          have HM2 := Lib.hid (show W2.heap[W1.heap.size]? = some (.cells (mcells m) 37 (0, 0)) by rw [hW]; exact heap_alloc_new W1 _)
          have HE2 := Lib.hid (own_below HE1.out hbb)
          have hne : W1.heap.size ≠ W0.heap.size := by have := (HE1.out.lt W0.heap.size rfl).2; omega
          show K _ _
          refine hK.out _ _ LB2.out.mm (fun hh4 => ?_)
          clear hK K hh5 hbb hW
          refine wpAnyH_ready (fuel := 3) (rs := [9]) (by kernel_rfl) (by simp) ?_
          refine AllReadyH.cons (o := ⟨some 40, _, _, _, _, _⟩) rfl (fun K hK => ?_) AllReadyH.nil
          refine step_append_sn rfl (.tmp 33) (.tmp 39) 46 rfl w2.heap.size 37 i0 (.agg (mga m0)) 15 120 Try.underlying46 hi0 hz0 hz1 hz2 rfl (by decide) _ 0 [] rfl HE2.out p N cap (cellsOf mg (l j)) rfl HLN.out (HPP.out _ BB2.out) (mg_cells (l j)) (by unfold maxLen; omega) (by omega) BB2.out.size ?_
          intro v1 W3 hown1 hgr1
          have BB3 := Lib.hid (BB2.out.grown hgr1 BB2.out.size (fun k hk => (HE2.out.lt k hk).1))
          have LB3 := Lib.hid (L2.out.step BB3.out)
          have HO3 := Lib.hid (show W3.ownsRow w2.heap.size 37 15 v1 N (cellsOf mg (l j)) by simpa using hown1)
          have HM3 := Lib.hid ((hgr1.block W1.heap.size (lt_of_block HM2.out) (fun e => hne (Option.some.inj e))).trans HM2.out)
          refine hK.out _ _ LB3.out.mm (fun hh3 => ?_)
          clear hK K hh4 hown1 hgr1
          simp only [Act.put, List.setIfInBounds_toArray, List.set_cons_zero, List.set_cons_succ]
          refine wpAnyH_ready (fuel := 2) (rs := [12]) (by kernel_rfl) (by simp) ?_
          refine AllReadyH.cons (o := ⟨some 43, _, _, _, _, _⟩) rfl (fun K hK => ?_) AllReadyH.nil
          refine step_append_lies _ rfl (.tmp 40) (.tmp 42) 46 rfl w2.heap.size 37 i0 (.agg (mga m0)) 15 120 Try.underlying46 hi0 hz0 hz1 hz2 rfl (by decide) v1 N (cellsOf mg (l j)) rfl HO3.out ⟨W1.heap.size, 0, none⟩ 1 1 (mg m) rfl rfl (World.news_of_block (cs := mga m) (t := 37) (fr := (0, 0)) HM3.out) (by intro u hu; exact mg_cells [m] u (by simpa [cellsOf] using hu)) (by omega) (by unfold maxLen; omega) (by omega) BB3.out.size _ rfl ?_
          intro gg cap2 W4 hown2 hgr2 hat hlt2
          have BB4 := Lib.hid (BB3.out.grown hgr2 BB3.out.size (fun k hk => (HO3.out.lt k hk).1))
          have LB4 := Lib.hid (L2.out.step BB4.out)
          refine hK.out _ _ LB4.out.mm (fun hh2 => ?_)
          clear hK K hh3 hgr2 hat hlt2
          simp only [Act.put, List.setIfInBounds_toArray, List.set_cons_zero, List.set_cons_succ]
          refine wpAnyH_take (fuel := 1) (i := 15) (oi := ⟨some 46, _, _, _, _, _⟩) (v := .pointer (some ⟨r, 13 + j, none⟩)) rfl (by kernel_rfl) (by kernel_rfl) (by kernel_rfl) (fun _ _ _ h => h) (Or.inl ⟨by rfl, ?_⟩) hh2 ?_
          · intro w' hw'
            go_simp
          simp only [Act.put, List.setIfInBounds_toArray, List.set_cons_zero, List.set_cons_succ]
          refine wpAnyH_ready (fuel := 0) (rs := [16]) (by kernel_rfl) (by simp) ?_
          refine AllReadyH.cons (o := ⟨none, _, _, _, _, _⟩) rfl (fun K hK => ?_) AllReadyH.nil
          have hc1 := HC.out _ BB4.out
          have hf1 := HFZ.out _ BB4.out
          go_simp
          show K _ _
          refine hK.out _ _ (fun o => (World.cell?_of_block (heap_setCell_other _ _ _ _ HNE2.out)).trans (LB4.out.mm o)) (fun _ => ?_)
          clear hK K hh2 hc1 hf1
          refine wpAnyH_done (by kernel_rfl) ?_ _
          refine NoPanic.normal ?_
          have HG := Lib.hid (HT.out _ BB4.out _ hown2)
          clear hown2
          go_wp2
          go_ret
          exact ⟨rfl, HG.out⟩
      · skip
        go_simp
        obtain ⟨W2, hW⟩ : ∃ X, X = W1.alloc (.cells (mcells m) 37) := ⟨_, rfl⟩
        rw [← hW]
        have hbb : Below W1.heap.size W1 W2 := by rw [hW]; exact (Below.refl _ _).alloc (Nat.le_refl _) _
        have BB2 := Lib.hid (bstep BB1.out hbb)
        have LB2 := Lib.hid (L2.out.step BB2.out)
        have HM2 := Lib.hid (show W2.heap[W1.heap.size]? = some (.cells (mcells m) 37 (0, 0)) by rw [hW]; exact heap_alloc_new W1 _)
        have HE2 := Lib.hid (own_below HE1.out hbb)
        have hne : W1.heap.size ≠ W0.heap.size := by have := (HE1.out.lt W0.heap.size rfl).2; omega
        show K _ _
        refine hK.out _ _ LB2.out.mm (fun hh5 => ?_)
        clear hK K hh6 hbb hW
        refine wpAnyH_ready (fuel := 4) (rs := [8]) (by kernel_rfl) (by simp) ?_
        refine AllReadyH.cons (o := ⟨some 39, _, _, _, _, _⟩) rfl (fun K hK => ?_) AllReadyH.nil
        have hc1 := HC.out _ BB2.out
        go_simp
        show K _ _
        refine hK.out _ _ LB2.out.mm (fun hh4 => ?_)
        clear hK K hh5 hc1
        refine wpAnyH_ready (fuel := 3) (rs := [9]) (by kernel_rfl) (by simp) ?_
        refine AllReadyH.cons (o := ⟨some 40, _, _, _, _, _⟩) rfl (fun K hK => ?_) AllReadyH.nil
        refine step_append_sn rfl (.tmp 33) (.tmp 39) 46 rfl w2.heap.size 37 i0 (.agg (mga m0)) 15 120 Try.underlying46 hi0 hz0 hz1 hz2 rfl (by decide) _ 0 [] rfl HE2.out p N cap (cellsOf mg (l j)) rfl HLN.out (HPP.out _ BB2.out) (mg_cells (l j)) (by unfold maxLen; omega) (by omega) BB2.out.size ?_
        intro v1 W3 hown1 hgr1
        have BB3 := Lib.hid (BB2.out.grown hgr1 BB2.out.size (fun k hk => (HE2.out.lt k hk).1))
        have LB3 := Lib.hid (L2.out.step BB3.out)
        have HO3 := Lib.hid (show W3.ownsRow w2.heap.size 37 15 v1 N (cellsOf mg (l j)) by simpa using hown1)
        have HM3 := Lib.hid ((hgr1.block W1.heap.size (lt_of_block HM2.out) (fun e => hne (Option.some.inj e))).trans HM2.out)
        refine hK.out _ _ LB3.out.mm (fun hh3 => ?_)
        clear hK K hh4 hown1 hgr1
        simp only [Act.put, List.setIfInBounds_toArray, List.set_cons_zero, List.set_cons_succ]
        refine wpAnyH_ready (fuel := 2) (rs := [12]) (by kernel_rfl) (by simp) ?_
        refine AllReadyH.cons (o := ⟨some 43, _, _, _, _, _⟩) rfl (fun K hK => ?_) AllReadyH.nil
        refine step_append_lies _ rfl (.tmp 40) (.tmp 42) 46 rfl w2.heap.size 37 i0 (.agg (mga m0)) 15 120 Try.underlying46 hi0 hz0 hz1 hz2 rfl (by decide) v1 N (cellsOf mg (l j)) rfl HO3.out ⟨W1.heap.size, 0, none⟩ 1 1 (mg m) rfl rfl (World.news_of_block (cs := mga m) (t := 37) (fr := (0, 0)) HM3.out) (by intro u hu; exact mg_cells [m] u (by simpa [cellsOf] using hu)) (by omega) (by unfold maxLen; omega) (by omega) BB3.out.size _ rfl ?_
        intro gg cap2 W4 hown2 hgr2 hat hlt2
        have BB4 := Lib.hid (BB3.out.grown hgr2 BB3.out.size (fun k hk => (HO3.out.lt k hk).1))
        have LB4 := Lib.hid (L2.out.step BB4.out)
        refine hK.out _ _ LB4.out.mm (fun hh2 => ?_)
        clear hK K hh3 hgr2 hat hlt2
        simp only [Act.put, List.setIfInBounds_toArray, List.set_cons_zero, List.set_cons_succ]
        refine wpAnyH_take (fuel := 1) (i := 15) (oi := ⟨some 46, _, _, _, _, _⟩) (v := .pointer (some ⟨r, 13 + j, none⟩)) rfl (by kernel_rfl) (by kernel_rfl) (by kernel_rfl) (fun _ _ _ h => h) (Or.inl ⟨by rfl, ?_⟩) hh2 ?_
        · intro w' hw'
          go_simp
        simp only [Act.put, List.setIfInBounds_toArray, List.set_cons_zero, List.set_cons_succ]
        refine wpAnyH_ready (fuel := 0) (rs := [16]) (by kernel_rfl) (by simp) ?_
        refine AllReadyH.cons (o := ⟨none, _, _, _, _, _⟩) rfl (fun K hK => ?_) AllReadyH.nil
        have hc1 := HC.out _ BB4.out
        have hf1 := HFZ.out _ BB4.out
        go_simp
        show K _ _
        refine hK.out _ _ (fun o => (World.cell?_of_block (heap_setCell_other _ _ _ _ HNE2.out)).trans (LB4.out.mm o)) (fun _ => ?_)
        clear hK K hh2 hc1 hf1
        refine wpAnyH_done (by kernel_rfl) ?_ _
        refine NoPanic.normal ?_
        have HG := Lib.hid (HT.out _ BB4.out _ hown2)
        clear hown2
        go_wp2
        go_ret
        exact ⟨rfl, HG.out⟩
    · skip
      have hc1 := HC.out _ BB0.out
      go_simp
      show K _ _
      refine hK.out _ _ LB0.out.mm (fun hh6 => ?_)
      clear hK K hh hc1
      refine wpAnyH_ready (fuel := 5) (rs := [2, 11]) (by kernel_rfl) (by simp) ?_
      refine AllReadyH.cons (o := ⟨some 33, _, _, _, _, _⟩) rfl (fun K hK => ?_) (AllReadyH.cons (o := ⟨some 42, _, _, _, _, _⟩) rfl (fun K hK => ?_) AllReadyH.nil)
      · skip
        go_simp
        obtain ⟨W1, hW⟩ : ∃ X, X = W0.alloc (.cells #[] 37) := ⟨_, rfl⟩
        rw [← hW]
        have hbb : Below W0.heap.size W0 W1 := by rw [hW]; exact (Below.refl _ _).alloc (Nat.le_refl _) _
        have BB1 := Lib.hid (bstep BB0.out hbb)
        have LB1 := Lib.hid (L2.out.step BB1.out)
        have HE1 := Lib.hid (show W1.ownsRow w2.heap.size 37 15 (.slice (some ⟨W0.heap.size, 0, none⟩) 0 0) 0 [] by rw [hW]; exact World.ownsRow_made W0 #[] 0 BB0.out.size (Nat.zero_le _) rfl)
        show K _ _
        refine hK.out _ _ LB1.out.mm (fun hh5 => ?_)
        clear hK K hh6 hbb hW
        refine wpAnyH_ready (fuel := 4) (rs := [9, 11]) (by kernel_rfl) (by simp) ?_
        refine AllReadyH.cons (o := ⟨some 40, _, _, _, _, _⟩) rfl (fun K hK => ?_) (AllReadyH.cons (o := ⟨some 42, _, _, _, _, _⟩) rfl (fun K hK => ?_) AllReadyH.nil)
        · skip
          refine step_append_sn rfl (.tmp 33) (.tmp 39) 46 rfl w2.heap.size 37 i0 (.agg (mga m0)) 15 120 Try.underlying46 hi0 hz0 hz1 hz2 rfl (by decide) _ 0 [] rfl HE1.out p N cap (cellsOf mg (l j)) rfl HLN.out (HPP.out _ BB1.out) (mg_cells (l j)) (by unfold maxLen; omega) (by omega) BB1.out.size ?_
          intro v1 W2 hown1 hgr1
          have BB2 := Lib.hid (BB1.out.grown hgr1 BB1.out.size (fun k hk => (HE1.out.lt k hk).1))
          have LB2 := Lib.hid (L2.out.step BB2.out)
          have HO2 := Lib.hid (show W2.ownsRow w2.heap.size 37 15 v1 N (cellsOf mg (l j)) by simpa using hown1)
          refine hK.out _ _ LB2.out.mm (fun hh4 => ?_)
          clear hK K hh5 hown1 hgr1
          simp only [Act.put, List.setIfInBounds_toArray, List.set_cons_zero, List.set_cons_succ]
          refine wpAnyH_ready (fuel := 3) (rs := [11]) (by kernel_rfl) (by simp) ?_
          refine AllReadyH.cons (o := ⟨some 42, _, _, _, _, _⟩) rfl (fun K hK => ?_) AllReadyH.nil
          go_simp
          obtain ⟨W3, hW⟩ : ∃ X, X = W2.alloc (.cells (mcells m) 37) := ⟨_, rfl⟩
          rw [← hW]
          have hbb : Below W2.heap.size W2 W3 := by rw [hW]; exact (Below.refl _ _).alloc (Nat.le_refl _) _
          have BB3 := Lib.hid (bstep BB2.out hbb)
          have LB3 := Lib.hid (L2.out.step BB3.out)
          have HM3 := Lib.hid (show W3.heap[W2.heap.size]? = some (.cells (mcells m) 37 (0, 0)) by rw [hW]; exact heap_alloc_new W2 _)
          have HO3 := Lib.hid (own_below HO2.out hbb)
          show K _ _
          refine hK.out _ _ LB3.out.mm (fun hh3 => ?_)
          clear hK K hh4 hbb hW
          refine wpAnyH_ready (fuel := 2) (rs := [12]) (by kernel_rfl) (by simp) ?_
          refine AllReadyH.cons (o := ⟨some 43, _, _, _, _, _⟩) rfl (fun K hK => ?_) AllReadyH.nil
          refine step_append_lies _ rfl (.tmp 40) (.tmp 42) 46 rfl w2.heap.size 37 i0 (.agg (mga m0)) 15 120 Try.underlying46 hi0 hz0 hz1 hz2 rfl (by decide) v1 N (cellsOf mg (l j)) rfl HO3.out ⟨W2.heap.size, 0, none⟩ 1 1 (mg m) rfl rfl (World.news_of_block (cs := mga m) (t := 37) (fr := (0, 0)) HM3.out) (by intro u hu; exact mg_cells [m] u (by simpa [cellsOf] using hu)) (by omega) (by unfold maxLen; omega) (by omega) BB3.out.size _ rfl ?_
          intro gg cap2 W4 hown2 hgr2 hat hlt2
          have BB4 := Lib.hid (BB3.out.grown hgr2 BB3.out.size (fun k hk => (HO3.out.lt k hk).1))
          have LB4 := Lib.hid (L2.out.step BB4.out)
          refine hK.out _ _ LB4.out.mm (fun hh2 => ?_)
          clear hK K hh3 hgr2 hat hlt2
          simp only [Act.put, List.setIfInBounds_toArray, List.set_cons_zero, List.set_cons_succ]
          refine wpAnyH_take (fuel := 1) (i := 15) (oi := ⟨some 46, _, _, _, _, _⟩) (v := .pointer (some ⟨r, 13 + j, none⟩)) rfl (by kernel_rfl) (by kernel_rfl) (by kernel_rfl) (fun _ _ _ h => h) (Or.inl ⟨by rfl, ?_⟩) hh2 ?_
          · intro w' hw'
            go_simp
          simp only [Act.put, List.setIfInBounds_toArray, List.set_cons_zero, List.set_cons_succ]
          refine wpAnyH_ready (fuel := 0) (rs := [16]) (by kernel_rfl) (by simp) ?_
          refine AllReadyH.cons (o := ⟨none, _, _, _, _, _⟩) rfl (fun K hK => ?_) AllReadyH.nil
          have hc1 := HC.out _ BB4.out
          have hf1 := HFZ.out _ BB4.out
          go_simp
          show K _ _
          refine hK.out _ _ (fun o => (World.cell?_of_block (heap_setCell_other _ _ _ _ HNE2.out)).trans (LB4.out.mm o)) (fun _ => ?_)
          clear hK K hh2 hc1 hf1
          refine wpAnyH_done (by kernel_rfl) ?_ _
          refine NoPanic.normal ?_
          have HG := Lib.hid (HT.out _ BB4.out _ hown2)
          clear hown2
          go_wp2
          go_ret
          exact ⟨rfl, HG.out⟩
        · skip
          go_simp
          obtain ⟨W2, hW⟩ : ∃ X, X = W1.alloc (.cells (mcells m) 37) := ⟨_, rfl⟩
          rw [← hW]
          have hbb : Below W1.heap.size W1 W2 := by rw [hW]; exact (Below.refl _ _).alloc (Nat.le_refl _) _
          have BB2 := Lib.hid (bstep BB1.out hbb)
          have LB2 := Lib.hid (L2.out.step BB2.out)
          have HM2 := Lib.hid (show W2.heap[W1.heap.size]? = some (.cells (mcells m) 37 (0, 0)) by rw [hW]; exact heap_alloc_new W1 _)
          have HE2 := Lib.hid (own_below HE1.out hbb)
          have hne : W1.heap.size ≠ W0.heap.size := by have := (HE1.out.lt W0.heap.size rfl).2; omega
          show K _ _
          refine hK.out _ _ LB2.out.mm (fun hh4 => ?_)
          clear hK K hh5 hbb hW
          refine wpAnyH_ready (fuel := 3) (rs := [9]) (by kernel_rfl) (by simp) ?_
          refine AllReadyH.cons (o := ⟨some 40, _, _, _, _, _⟩) rfl (fun K hK => ?_) AllReadyH.nil
          refine step_append_sn rfl (.tmp 33) (.tmp 39) 46 rfl w2.heap.size 37 i0 (.agg (mga m0)) 15 120 Try.underlying46 hi0 hz0 hz1 hz2 rfl (by decide) _ 0 [] rfl HE2.out p N cap (cellsOf mg (l j)) rfl HLN.out (HPP.out _ BB2.out) (mg_cells (l j)) (by unfold maxLen; omega) (by omega) BB2.out.size ?_
          intro v1 W3 hown1 hgr1
          have BB3 := Lib.hid (BB2.out.grown hgr1 BB2.out.size (fun k hk => (HE2.out.lt k hk).1))
          have LB3 := Lib.hid (L2.out.step BB3.out)
          have HO3 := Lib.hid (show W3.ownsRow w2.heap.size 37 15 v1 N (cellsOf mg (l j)) by simpa using hown1)
          have HM3 := Lib.hid ((hgr1.block W1.heap.size (lt_of_block HM2.out) (fun e => hne (Option.some.inj e))).trans HM2.out)
          refine hK.out _ _ LB3.out.mm (fun hh3 => ?_)
          clear hK K hh4 hown1 hgr1
          simp only [Act.put, List.setIfInBounds_toArray, List.set_cons_zero, List.set_cons_succ]
          refine wpAnyH_ready (fuel := 2) (rs := [12]) (by kernel_rfl) (by simp) ?_
          refine AllReadyH.cons (o := ⟨some 43, _, _, _, _, _⟩) rfl (fun K hK => ?_) AllReadyH.nil
          refine step_append_lies _ rfl (.tmp 40) (.tmp 42) 46 rfl w2.heap.size 37 i0 (.agg (mga m0)) 15 120 Try.underlying46 hi0 hz0 hz1 hz2 rfl (by decide) v1 N (cellsOf mg (l j)) rfl HO3.out ⟨W1.heap.size, 0, none⟩ 1 1 (mg m) rfl rfl (World.news_of_block (cs := mga m) (t := 37) (fr := (0, 0)) HM3.out) (by intro u hu; exact mg_cells [m] u (by simpa [cellsOf] using hu)) (by omega) (by unfold maxLen; omega) (by omega) BB3.out.size _ rfl ?_
          intro gg cap2 W4 hown2 hgr2 hat hlt2
          have BB4 := Lib.hid (BB3.out.grown hgr2 BB3.out.size (fun k hk => (HO3.out.lt k hk).1))
          have LB4 := Lib.hid (L2.out.step BB4.out)
          refine hK.out _ _ LB4.out.mm (fun hh2 => ?_)
          clear hK K hh3 hgr2 hat hlt2
          simp only [Act.put, List.setIfInBounds_toArray, List.set_cons_zero, List.set_cons_succ]
          refine wpAnyH_take (fuel := 1) (i := 15) (oi := ⟨some 46, _, _, _, _, _⟩) (v := .pointer (some ⟨r, 13 + j, none⟩)) rfl (by kernel_rfl) (by kernel_rfl) (by kernel_rfl) (fun _ _ _ h => h) (Or.inl ⟨by rfl, ?_⟩) hh2 ?_
          · intro w' hw'
            go_simp
          simp only [Act.put, List.setIfInBounds_toArray, List.set_cons_zero, List.set_cons_succ]
          refine wpAnyH_ready (fuel := 0) (rs := [16]) (by kernel_rfl) (by simp) ?_
          refine AllReadyH.cons (o := ⟨none, _, _, _, _, _⟩) rfl (fun K hK => ?_) AllReadyH.nil
          have hc1 := HC.out _ BB4.out
          have hf1 := HFZ.out _ BB4.out
          go_simp
          show K _ _
          refine hK.out _ _ (fun o => (World.cell?_of_block (heap_setCell_other _ _ _ _ HNE2.out)).trans (LB4.out.mm o)) (fun _ => ?_)
          clear hK K hh2 hc1 hf1
          refine wpAnyH_done (by kernel_rfl) ?_ _
          refine NoPanic.normal ?_
          have HG := Lib.hid (HT.out _ BB4.out _ hown2)
          clear hown2
          go_wp2
          go_ret
          exact ⟨rfl, HG.out⟩
      · skip
        go_simp
        obtain ⟨W1, hW⟩ : ∃ X, X = W0.alloc (.cells (mcells m) 37) := ⟨_, rfl⟩
        rw [← hW]
        have hbb : Below W0.heap.size W0 W1 := by rw [hW]; exact (Below.refl _ _).alloc (Nat.le_refl _) _
        have BB1 := Lib.hid (bstep BB0.out hbb)
        have LB1 := Lib.hid (L2.out.step BB1.out)
        have HM1 := Lib.hid (show W1.heap[W0.heap.size]? = some (.cells (mcells m) 37 (0, 0)) by rw [hW]; exact heap_alloc_new W0 _)
        show K _ _
        refine hK.out _ _ LB1.out.mm (fun hh5 => ?_)
        clear hK K hh6 hbb hW
        refine wpAnyH_ready (fuel := 4) (rs := [2]) (by kernel_rfl) (by simp) ?_
        refine AllReadyH.cons (o := ⟨some 33, _, _, _, _, _⟩) rfl (fun K hK => ?_) AllReadyH.nil
        go_simp
        obtain ⟨W2, hW⟩ : ∃ X, X = W1.alloc (.cells #[] 37) := ⟨_, rfl⟩
        rw [← hW]
        have hbb : Below W1.heap.size W1 W2 := by rw [hW]; exact (Below.refl _ _).alloc (Nat.le_refl _) _
        have BB2 := Lib.hid (bstep BB1.out hbb)
        have LB2 := Lib.hid (L2.out.step BB2.out)
        have HE2 := Lib.hid (show W2.ownsRow w2.heap.size 37 15 (.slice (some ⟨W1.heap.size, 0, none⟩) 0 0) 0 [] by rw [hW]; exact World.ownsRow_made W1 #[] 0 BB1.out.size (Nat.zero_le _) rfl)
        have HM2 := Lib.hid ((hbb.block _ (lt_of_block HM1.out)).trans HM1.out)
        have hne : W0.heap.size ≠ W1.heap.size := by have := lt_of_block HM1.out; omega
        show K _ _
        refine hK.out _ _ LB2.out.mm (fun hh4 => ?_)
        clear hK K hh5 hbb hW
        refine wpAnyH_ready (fuel := 3) (rs := [9]) (by kernel_rfl) (by simp) ?_
        refine AllReadyH.cons (o := ⟨some 40, _, _, _, _, _⟩) rfl (fun K hK => ?_) AllReadyH.nil
        refine step_append_sn rfl (.tmp 33) (.tmp 39) 46 rfl w2.heap.size 37 i0 (.agg (mga m0)) 15 120 Try.underlying46 hi0 hz0 hz1 hz2 rfl (by decide) _ 0 [] rfl HE2.out p N cap (cellsOf mg (l j)) rfl HLN.out (HPP.out _ BB2.out) (mg_cells (l j)) (by unfold maxLen; omega) (by omega) BB2.out.size ?_
        intro v1 W3 hown1 hgr1
        have BB3 := Lib.hid (BB2.out.grown hgr1 BB2.out.size (fun k hk => (HE2.out.lt k hk).1))
        have LB3 := Lib.hid (L2.out.step BB3.out)
        have HO3 := Lib.hid (show W3.ownsRow w2.heap.size 37 15 v1 N (cellsOf mg (l j)) by simpa using hown1)
        have HM3 := Lib.hid ((hgr1.block W0.heap.size (lt_of_block HM2.out) (fun e => hne (Option.some.inj e))).trans HM2.out)
        refine hK.out _ _ LB3.out.mm (fun hh3 => ?_)
        clear hK K hh4 hown1 hgr1
        simp only [Act.put, List.setIfInBounds_toArray, List.set_cons_zero, List.set_cons_succ]
        refine wpAnyH_ready (fuel := 2) (rs := [12]) (by kernel_rfl) (by simp) ?_
        refine AllReadyH.cons (o := ⟨some 43, _, _, _, _, _⟩) rfl (fun K hK => ?_) AllReadyH.nil
        refine step_append_lies _ rfl (.tmp 40) (.tmp 42) 46 rfl w2.heap.size 37 i0 (.agg (mga m0)) 15 120 Try.underlying46 hi0 hz0 hz1 hz2 rfl (by decide) v1 N (cellsOf mg (l j)) rfl HO3.out ⟨W0.heap.size, 0, none⟩ 1 1 (mg m) rfl rfl (World.news_of_block (cs := mga m) (t := 37) (fr := (0, 0)) HM3.out) (by intro u hu; exact mg_cells [m] u (by simpa [cellsOf] using hu)) (by omega) (by unfold maxLen; omega) (by omega) BB3.out.size _ rfl ?_
        intro gg cap2 W4 hown2 hgr2 hat hlt2
        have BB4 := Lib.hid (BB3.out.grown hgr2 BB3.out.size (fun k hk => (HO3.out.lt k hk).1))
        have LB4 := Lib.hid (L2.out.step BB4.out)
        refine hK.out _ _ LB4.out.mm (fun hh2 => ?_)
        clear hK K hh3 hgr2 hat hlt2
        simp only [Act.put, List.setIfInBounds_toArray, List.set_cons_zero, List.set_cons_succ]
        refine wpAnyH_take (fuel := 1) (i := 15) (oi := ⟨some 46, _, _, _, _, _⟩) (v := .pointer (some ⟨r, 13 + j, none⟩)) rfl (by kernel_rfl) (by kernel_rfl) (by kernel_rfl) (fun _ _ _ h => h) (Or.inl ⟨by rfl, ?_⟩) hh2 ?_
        · intro w' hw'
          go_simp
        simp only [Act.put, List.setIfInBounds_toArray, List.set_cons_zero, List.set_cons_succ]
        refine wpAnyH_ready (fuel := 0) (rs := [16]) (by kernel_rfl) (by simp) ?_
        refine AllReadyH.cons (o := ⟨none, _, _, _, _, _⟩) rfl (fun K hK => ?_) AllReadyH.nil
        have hc1 := HC.out _ BB4.out
        have hf1 := HFZ.out _ BB4.out
        go_simp
        show K _ _
        refine hK.out _ _ (fun o => (World.cell?_of_block (heap_setCell_other _ _ _ _ HNE2.out)).trans (LB4.out.mm o)) (fun _ => ?_)
        clear hK K hh2 hc1 hf1
        refine wpAnyH_done (by kernel_rfl) ?_ _
        refine NoPanic.normal ?_
        have HG := Lib.hid (HT.out _ BB4.out _ hown2)
        clear hown2
        go_wp2
        go_ret
        exact ⟨rfl, HG.out⟩
    · skip
      go_simp
      obtain ⟨W1, hW⟩ : ∃ X, X = W0.alloc (.cells (mcells m) 37) := ⟨_, rfl⟩
      rw [← hW]
      have hbb : Below W0.heap.size W0 W1 := by rw [hW]; exact (Below.refl _ _).alloc (Nat.le_refl _) _
      have BB1 := Lib.hid (bstep BB0.out hbb)
      have LB1 := Lib.hid (L2.out.step BB1.out)
      have HM1 := Lib.hid (show W1.heap[W0.heap.size]? = some (.cells (mcells m) 37 (0, 0)) by rw [hW]; exact heap_alloc_new W0 _)
      show K _ _
      refine hK.out _ _ LB1.out.mm (fun hh6 => ?_)
      clear hK K hh hbb hW
      refine wpAnyH_ready (fuel := 5) (rs := [2, 8]) (by kernel_rfl) (by simp) ?_
      refine AllReadyH.cons (o := ⟨some 33, _, _, _, _, _⟩) rfl (fun K hK => ?_) (AllReadyH.cons (o := ⟨some 39, _, _, _, _, _⟩) rfl (fun K hK => ?_) AllReadyH.nil)
      · skip
        go_simp
        obtain ⟨W2, hW⟩ : ∃ X, X = W1.alloc (.cells #[] 37) := ⟨_, rfl⟩
        rw [← hW]
        have hbb : Below W1.heap.size W1 W2 := by rw [hW]; exact (Below.refl _ _).alloc (Nat.le_refl _) _
        have BB2 := Lib.hid (bstep BB1.out hbb)
        have LB2 := Lib.hid (L2.out.step BB2.out)
        have HE2 := Lib.hid (show W2.ownsRow w2.heap.size 37 15 (.slice (some ⟨W1.heap.size, 0, none⟩) 0 0) 0 [] by rw [hW]; exact World.ownsRow_made W1 #[] 0 BB1.out.size (Nat.zero_le _) rfl)
        have HM2 := Lib.hid ((hbb.block _ (lt_of_block HM1.out)).trans HM1.out)
        have hne : W0.heap.size ≠ W1.heap.size := by have := lt_of_block HM1.out; omega
        show K _ _
        refine hK.out _ _ LB2.out.mm (fun hh5 => ?_)
        clear hK K hh6 hbb hW
        refine wpAnyH_ready (fuel := 4) (rs := [8]) (by kernel_rfl) (by simp) ?_
        refine AllReadyH.cons (o := ⟨some 39, _, _, _, _, _⟩) rfl (fun K hK => ?_) AllReadyH.nil
        have hc1 := HC.out _ BB2.out
        go_simp
        show K _ _
        refine hK.out _ _ LB2.out.mm (fun hh4 => ?_)
        clear hK K hh5 hc1
        refine wpAnyH_ready (fuel := 3) (rs := [9]) (by kernel_rfl) (by simp) ?_
        refine AllReadyH.cons (o := ⟨some 40, _, _, _, _, _⟩) rfl (fun K hK => ?_) AllReadyH.nil
        refine step_append_sn rfl (.tmp 33) (.tmp 39) 46 rfl w2.heap.size 37 i0 (.agg (mga m0)) 15 120 Try.underlying46 hi0 hz0 hz1 hz2 rfl (by decide) _ 0 [] rfl HE2.out p N cap (cellsOf mg (l j)) rfl HLN.out (HPP.out _ BB2.out) (mg_cells (l j)) (by unfold maxLen; omega) (by omega) BB2.out.size ?_
        intro v1 W3 hown1 hgr1
        have BB3 := Lib.hid (BB2.out.grown hgr1 BB2.out.size (fun k hk => (HE2.out.lt k hk).1))
        have LB3 := Lib.hid (L2.out.step BB3.out)
        have HO3 := Lib.hid (show W3.ownsRow w2.heap.size 37 15 v1 N (cellsOf mg (l j)) by simpa using hown1)
        have HM3 := Lib.hid ((hgr1.block W0.heap.size (lt_of_block HM2.out) (fun e => hne (Option.some.inj e))).trans HM2.out)
        refine hK.out _ _ LB3.out.mm (fun hh3 => ?_)
        clear hK K hh4 hown1 hgr1
        simp only [Act.put, List.setIfInBounds_toArray, List.set_cons_zero, List.set_cons_succ]
        refine wpAnyH_ready (fuel := 2) (rs := [12]) (by kernel_rfl) (by simp) ?_
        refine AllReadyH.cons (o := ⟨some 43, _, _, _, _, _⟩) rfl (fun K hK => ?_) AllReadyH.nil
        refine step_append_lies _ rfl (.tmp 40) (.tmp 42) 46 rfl w2.heap.size 37 i0 (.agg (mga m0)) 15 120 Try.underlying46 hi0 hz0 hz1 hz2 rfl (by decide) v1 N (cellsOf mg (l j)) rfl HO3.out ⟨W0.heap.size, 0, none⟩ 1 1 (mg m) rfl rfl (World.news_of_block (cs := mga m) (t := 37) (fr := (0, 0)) HM3.out) (by intro u hu; exact mg_cells [m] u (by simpa [cellsOf] using hu)) (by omega) (by unfold maxLen; omega) (by omega) BB3.out.size _ rfl ?_
        intro gg cap2 W4 hown2 hgr2 hat hlt2
        have BB4 := Lib.hid (BB3.out.grown hgr2 BB3.out.size (fun k hk => (HO3.out.lt k hk).1))
        have LB4 := Lib.hid (L2.out.step BB4.out)
        refine hK.out _ _ LB4.out.mm (fun hh2 => ?_)
        clear hK K hh3 hgr2 hat hlt2
        simp only [Act.put, List.setIfInBounds_toArray, List.set_cons_zero, List.set_cons_succ]
        refine wpAnyH_take (fuel := 1) (i := 15) (oi := ⟨some 46, _, _, _, _, _⟩) (v := .pointer (some ⟨r, 13 + j, none⟩)) rfl (by kernel_rfl) (by kernel_rfl) (by kernel_rfl) (fun _ _ _ h => h) (Or.inl ⟨by rfl, ?_⟩) hh2 ?_
        · intro w' hw'
          go_simp
        simp only [Act.put, List.setIfInBounds_toArray, List.set_cons_zero, List.set_cons_succ]
        refine wpAnyH_ready (fuel := 0) (rs := [16]) (by kernel_rfl) (by simp) ?_
        refine AllReadyH.cons (o := ⟨none, _, _, _, _, _⟩) rfl (fun K hK => ?_) AllReadyH.nil
        have hc1 := HC.out _ BB4.out
        have hf1 := HFZ.out _ BB4.out
        go_simp
        show K _ _
        refine hK.out _ _ (fun o => (World.cell?_of_block (heap_setCell_other _ _ _ _ HNE2.out)).trans (LB4.out.mm o)) (fun _ => ?_)
        clear hK K hh2 hc1 hf1
        refine wpAnyH_done (by kernel_rfl) ?_ _
        refine NoPanic.normal ?_
        have HG := Lib.hid (HT.out _ BB4.out _ hown2)
        clear hown2
        go_wp2
        go_ret
        exact ⟨rfl, HG.out⟩
      · skip
        have hc1 := HC.out _ BB1.out
        go_simp
        show K _ _
        refine hK.out _ _ LB1.out.mm (fun hh5 => ?_)
        clear hK K hh6 hc1
        refine wpAnyH_ready (fuel := 4) (rs := [2]) (by kernel_rfl) (by simp) ?_
        refine AllReadyH.cons (o := ⟨some 33, _, _, _, _, _⟩) rfl (fun K hK => ?_) AllReadyH.nil
        go_simp
        obtain ⟨W2, hW⟩ : ∃ X, X = W1.alloc (.cells #[] 37) := ⟨_, rfl⟩
        rw [← hW]
        have hbb : Below W1.heap.size W1 W2 := by rw [hW]; exact (Below.refl _ _).alloc (Nat.le_refl _) _
        have BB2 := Lib.hid (bstep BB1.out hbb)
        have LB2 := Lib.hid (L2.out.step BB2.out)
        have HE2 := Lib.hid (show W2.ownsRow w2.heap.size 37 15 (.slice (some ⟨W1.heap.size, 0, none⟩) 0 0) 0 [] by rw [hW]; exact World.ownsRow_made W1 #[] 0 BB1.out.size (Nat.zero_le _) rfl)
        have HM2 := Lib.hid ((hbb.block _ (lt_of_block HM1.out)).trans HM1.out)
        have hne : W0.heap.size ≠ W1.heap.size := by have := lt_of_block HM1.out; omega
        show K _ _
        refine hK.out _ _ LB2.out.mm (fun hh4 => ?_)
        clear hK K hh5 hbb hW
        refine wpAnyH_ready (fuel := 3) (rs := [9]) (by kernel_rfl) (by simp) ?_
        refine AllReadyH.cons (o := ⟨some 40, _, _, _, _, _⟩) rfl (fun K hK => ?_) AllReadyH.nil
        refine step_append_sn rfl (.tmp 33) (.tmp 39) 46 rfl w2.heap.size 37 i0 (.agg (mga m0)) 15 120 Try.underlying46 hi0 hz0 hz1 hz2 rfl (by decide) _ 0 [] rfl HE2.out p N cap (cellsOf mg (l j)) rfl HLN.out (HPP.out _ BB2.out) (mg_cells (l j)) (by unfold maxLen; omega) (by omega) BB2.out.size ?_
        intro v1 W3 hown1 hgr1
        have BB3 := Lib.hid (BB2.out.grown hgr1 BB2.out.size (fun k hk => (HE2.out.lt k hk).1))
        have LB3 := Lib.hid (L2.out.step BB3.out)
        have HO3 := Lib.hid (show W3.ownsRow w2.heap.size 37 15 v1 N (cellsOf mg (l j)) by simpa using hown1)
        have HM3 := Lib.hid ((hgr1.block W0.heap.size (lt_of_block HM2.out) (fun e => hne (Option.some.inj e))).trans HM2.out)
        refine hK.out _ _ LB3.out.mm (fun hh3 => ?_)
        clear hK K hh4 hown1 hgr1
        simp only [Act.put, List.setIfInBounds_toArray, List.set_cons_zero, List.set_cons_succ]
        refine wpAnyH_ready (fuel := 2) (rs := [12]) (by kernel_rfl) (by simp) ?_
        refine AllReadyH.cons (o := ⟨some 43, _, _, _, _, _⟩) rfl (fun K hK => ?_) AllReadyH.nil
        refine step_append_lies _ rfl (.tmp 40) (.tmp 42) 46 rfl w2.heap.size 37 i0 (.agg (mga m0)) 15 120 Try.underlying46 hi0 hz0 hz1 hz2 rfl (by decide) v1 N (cellsOf mg (l j)) rfl HO3.out ⟨W0.heap.size, 0, none⟩ 1 1 (mg m) rfl rfl (World.news_of_block (cs := mga m) (t := 37) (fr := (0, 0)) HM3.out) (by intro u hu; exact mg_cells [m] u (by simpa [cellsOf] using hu)) (by omega) (by unfold maxLen; omega) (by omega) BB3.out.size _ rfl ?_
        intro gg cap2 W4 hown2 hgr2 hat hlt2
        have BB4 := Lib.hid (BB3.out.grown hgr2 BB3.out.size (fun k hk => (HO3.out.lt k hk).1))
        have LB4 := Lib.hid (L2.out.step BB4.out)
        refine hK.out _ _ LB4.out.mm (fun hh2 => ?_)
        clear hK K hh3 hgr2 hat hlt2
        simp only [Act.put, List.setIfInBounds_toArray, List.set_cons_zero, List.set_cons_succ]
        refine wpAnyH_take (fuel := 1) (i := 15) (oi := ⟨some 46, _, _, _, _, _⟩) (v := .pointer (some ⟨r, 13 + j, none⟩)) rfl (by kernel_rfl) (by kernel_rfl) (by kernel_rfl) (fun _ _ _ h => h) (Or.inl ⟨by rfl, ?_⟩) hh2 ?_
        · intro w' hw'
          go_simp
        simp only [Act.put, List.setIfInBounds_toArray, List.set_cons_zero, List.set_cons_succ]
        refine wpAnyH_ready (fuel := 0) (rs := [16]) (by kernel_rfl) (by simp) ?_
        refine AllReadyH.cons (o := ⟨none, _, _, _, _, _⟩) rfl (fun K hK => ?_) AllReadyH.nil
        have hc1 := HC.out _ BB4.out
        have hf1 := HFZ.out _ BB4.out
        go_simp
        show K _ _
        refine hK.out _ _ (fun o => (World.cell?_of_block (heap_setCell_other _ _ _ _ HNE2.out)).trans (LB4.out.mm o)) (fun _ => ?_)
        clear hK K hh2 hc1 hf1
        refine wpAnyH_done (by kernel_rfl) ?_ _
        refine NoPanic.normal ?_
        have HG := Lib.hid (HT.out _ BB4.out _ hown2)
        clear hown2
        go_wp2
        go_ret
        exact ⟨rfl, HG.out⟩

end Go.Proofs.Ytdggjbaapnkcgaa
