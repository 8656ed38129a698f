/-
  The document's net in memory; what its New, Left, At and Empty do.
-/
import Derived.Test.YtdggjbaapnkcgaaNtF
import Derived.Test.YtdggjbaapnkcgaaNtE
import Derived.Test.YtdggjbaapnkcgaaRef1
import Derived.Deep.QuietTactic
import Derived.Test.YtdggjbaapnkcgaaNtG
import Derived.Test.YtdggjbaapnkcgaaNtOpen
import Derived.Test.YtdggjbaapnkcgaaMsEq
namespace Go.Proofs.Ytdggjbaapnkcgaa
open Go Go.RowKit

/-- The document's net in memory: its block, and a row of each network. -/
structure RefP (w : World) (B r : Nat) (c : Cfg) (l : Nat → List Msg) (u : Nat → Value) : Prop where
  blk : w.heap[r]? = some (.cells (mkcells c (u 0) (u 1) (u 2)) 49 (0, 0))
  row : ∀ k, k < 3 → w.ownsRow B 37 15 (u k) (l k).length (cellsOf mg (l k))
  len : ∀ k, k < 3 → ((l k).length : Int) ≤ room c k
  off : ∀ k, k < 3 → (u k).ownBlock ≠ some r
  big : B ≤ r
  ok : okC c = true
def RFoot (r : Nat) (u : Nat → Value) (k : Nat) : Prop := k = r ∨ ∃ i, i < 3 ∧ (u i).ownBlock = some k
variable {w w' : World} {B r : Nat} {c : Cfg} {l : Nat → List Msg} {u : Nat → Value}
theorem RefP.len64 (h : RefP w B r c l u) (k : Nat) (hk : k < 3) : (l k).length ≤ 64 := by have := h.len k hk; have := (room_le h.ok k hk).2; omega
theorem RefP.lt (h : RefP w B r c l u) : r < w.heap.size := lt_of_block h.blk
theorem RefP.foot (h : RefP w B r c l u) (k : Nat) (hk : RFoot r u k) : B ≤ k ∧ k < w.heap.size := by
  rcases hk with rfl | ⟨i, hi, e⟩
  · exact ⟨h.big, h.lt⟩
  · exact (h.row i hi).lt k e
theorem RefP.keep (h : RefP w B r c l u) (hk : ∀ k, RFoot r u k → w'.heap[k]? = w.heap[k]?) : RefP w' B r c l u :=
  ⟨(hk r (.inl rfl)).trans h.blk, fun k hk3 => own_block (h.row k hk3) (fun q hq => hk q (.inr ⟨k, hk3, hq⟩)), h.len, h.off, h.big, h.ok⟩
theorem RefP.below (h : RefP w B r c l u) (hb : Below w.heap.size w w') : RefP w' B r c l u := h.keep fun k hk => hb.block k (h.foot k hk).2
/-- What is behind a call that changes one. -/
def RefGave (w : World) (B r : Nat) (c : Cfg) (l : Nat → List Msg) (u : Nat → Value) (w' : World) : Prop := ∃ u', RefP w' B r c l u' ∧ TurnF (RFoot r u) w w' ∧ FreshF w (RFoot r u) (RFoot r u')
theorem mk_set (c : Cfg) (u : Nat → Value) (i : Nat) (hi : i < 3) (v : Value) : (mkcells c (u 0) (u 1) (u 2)).setIfInBounds (13 + i) v = mkcells c (upd u i v 0) (upd u i v 1) (upd u i v 2) := by
  rcases (show i = 0 ∨ i = 1 ∨ i = 2 by omega) with rfl | rfl | rfl <;> simp [upd]
theorem RefP.turn {w2 : World} (h : RefP w B r c l u) (hB : B ≤ w.heap.size) (hw : Below w.heap.size w w2) (i : Nat) (hi : i < 3) {m : List Msg} {n : Nat} {v : Value} (hm : m.length = n) (hl : (m.length : Int) ≤ room c i)
    (hown : w2.ownsRow w.heap.size 37 15 v n (cellsOf mg m)) : RefGave w B r c (upd l i m) u (w2.setCell ⟨r, 13 + i, none⟩ v) := by
  subst hm
  have hlt := h.lt
  have hv : ∀ k, v.ownBlock = some k → w.heap.size ≤ k := fun k hk => (hown.lt k hk).1
  have hb2 := (hw.block r hlt).trans h.blk
  have hs : ∀ q, q ≠ r → (w2.setCell ⟨r, 13 + i, none⟩ v).heap[q]? = w2.heap[q]? := fun q hq => heap_setCell_other _ _ _ _ hq
  refine ⟨upd u i v, ⟨?_, ?_, ?_, ?_, h.big, h.ok⟩, ⟨hw.os, hw.tape, hw.output, ?_, ?_⟩, ?_⟩
  · rw [heap_setCell_same w2 r (13 + i) _ _ _ hb2, mk_set c u i hi v]
  · intro k hk
    by_cases e : k = i
    · subst e
      rw [upd_same, upd_same]
      exact own_base (own_block hown fun q hq => hs q (by have := hv q hq; omega)) fun q hq => by have := hv q hq; omega
    · rw [upd_other _ _ _ _ e, upd_other _ _ _ _ e]
      exact own_block (h.row k hk) fun q hq => (hs q (fun e2 => h.off k hk (e2 ▸ hq))).trans (hw.block q ((h.row k hk).lt q hq).2)
  · intro k hk
    by_cases e : k = i
    · subst e
      rw [upd_same]
      exact hl
    · rw [upd_other _ _ _ _ e]
      exact h.len k hk
  · intro k hk
    by_cases e : k = i
    · subst e
      rw [upd_same]
      exact fun e2 => by have := hv r e2; omega
    · rw [upd_other _ _ _ _ e]
      exact h.off k hk
  · have := hw.size; simp [World.setCell]; omega
  · intro k hk hF
    exact (hs k (fun e => hF (.inl e))).trans (hw.block k hk)
  · intro k hk
    rcases hk with rfl | ⟨j, hj, e⟩
    · exact .inl (.inl rfl)
    · by_cases ej : j = i
      · subst ej
        rw [upd_same] at e
        exact .inr (hv k e)
      · rw [upd_other _ _ _ _ ej] at e
        exact .inl (.inr ⟨j, hj, e⟩)
/-- What a walk reads of it. -/
theorem RefP.cells (h : RefP w B r c l u) (j : Nat) (hj : j < 3) : ∃ p cap, u j = .slice p (l j).length cap ∧ w.cell? ⟨r, 13 + j, none⟩ = some (.slice p (l j).length cap) ∧ w.cell? ⟨r, 10 + j, none⟩ = some (.int .i64 (room c j)) ∧ w.frozen? ⟨r, 13 + j, none⟩ = false ∧
    (∀ i x, (l j)[i]? = some x → ∃ g, p = some ⟨g, 0, none⟩ ∧ g < w.heap.size ∧ w.rangeAt g (i * 15) (mg x)) := by
  rcases (h.row j hj).2 with ⟨e, h0⟩ | ⟨g, cap, cur, e, hb, hg, _⟩
  · refine ⟨none, 0, by rw [e, h0], ?_, ?_, blk_free h.blk _, fun i x hx => ?_⟩
    · rw [blk_cell h.blk, h0, ← e]
      rcases (show j = 0 ∨ j = 1 ∨ j = 2 by omega) with rfl | rfl | rfl <;> rfl
    · rw [blk_cell h.blk]
      rcases (show j = 0 ∨ j = 1 ∨ j = 2 by omega) with rfl | rfl | rfl <;> rfl
    · have := (List.getElem?_eq_some_iff.1 hx).1
      omega
  · refine ⟨_, cap, e, ?_, ?_, blk_free h.blk _, fun i x hx => ⟨g, rfl, lt_of_block hg, mg_range (e ▸ h.row j hj) hx⟩⟩
    · rw [blk_cell h.blk, ← e]
      rcases (show j = 0 ∨ j = 1 ∨ j = 2 by omega) with rfl | rfl | rfl <;> rfl
    · rw [blk_cell h.blk]
      rcases (show j = 0 ∨ j = 1 ∨ j = 2 by omega) with rfl | rfl | rfl <;> rfl

/-- New. -/
theorem rnew_no (c : Cfg) (w : World) (hok : okC c = false) :
    Calls Try.prog 7 #[cv c] w fun e w' => e = .returned (.tuple #[.pointer none, .int .i64 1]) ∧ Below w.heap.size w w' := by
  have h0 := chk_no c hok
  clear hok
  go_enter Try.func7, Try.ntmps7
  go_wp2_with (fail)
  refine (refCheck_any c _).mono ?_
  rintro e w1 ⟨rfl, hb1⟩
  go_wp2
  go_ret2
  exact ⟨rfl, bbox hb1⟩
def RNewGave (w : World) (c : Cfg) (e : Ending) (w' : World) : Prop := ∃ r u, e = .returned (.tuple #[.pointer (some ⟨r, 0, none⟩), .int .i64 0]) ∧ RefP w' w.heap.size r c (fun _ => []) u ∧ Below w.heap.size w w'
theorem rnew_yes (c : Cfg) (w : World) (hok : okC c = true) :
    Calls Try.prog 7 #[cv c] w (RNewGave w c) := by
  have h0 := chk_ok c hok
  have HO := Lib.hid hok
  have KK := Kp.box w (ccells c) 24
  clear hok
  go_enter Try.func7, Try.ntmps7
  go_wp2_with (fail)
  refine (refCheck_any c _).mono ?_
  rintro e w1 ⟨rfl, hb1⟩
  have K1 := KK.step hb1
  have ha := K1.1
  clear KK hb1
  go_wp2_with (fail)
  have hb := bstep K1.2.2 ((Below.refl _ w1).alloc (Nat.le_refl _) (.cells (mkcells c (.slice none 0 0) (.slice none 0 0) (.slice none 0 0)) 49))
  have hN : RefP (w1.alloc (.cells (mkcells c (.slice none 0 0) (.slice none 0 0) (.slice none 0 0)) 49)) w.heap.size w1.heap.size c (fun _ => []) (fun _ => .slice none 0 0) :=
    ⟨heap_alloc_new w1 _, fun k _ => World.ownsRow_nil _ _ _ _, fun k hk => by have := (room_le HO.out k hk).1; simp; omega, fun k _ e => by simp [Value.ownBlock] at e, Nat.le_of_lt K1.2.1, HO.out⟩
  go_ret2
  exact ⟨w1.heap.size, _, rfl, hN, hb⟩

/-- Left. -/
theorem rleft_no (p : Value) (k : Int) (w : World) (hk : k < 0 ∨ 3 ≤ k) :
    Calls Try.prog 11 #[p, .int .i64 k] w fun e w' => e = .returned (.int .i64 0) ∧ Below w.heap.size w w' := by
  rcases hk with hk | hk
  · go_enter Try.func11, Try.ntmps11
    go_wp2
    go_ret
    exact ⟨rfl, Below.refl _ _⟩
  · have h1 : ¬ k < 0 := by omega
    have h2 : 2 < k := by omega
    go_enter Try.func11, Try.ntmps11
    go_wp2
    go_ret
    exact ⟨rfl, Below.refl _ _⟩
set_option maxRecDepth 100000 in
theorem rleft_yes (h : RefP w B r c l u) (j : Nat) (hj : j < 3) :
    Calls Try.prog 11 #[.pointer (some ⟨r, 0, none⟩), .int .i64 j] w fun e w' => e = .returned (.int .i64 (room c j - (l j).length)) ∧ Below w.heap.size w w' := by
  obtain ⟨p, cap, -, c1, c2, -, -⟩ := h.cells j hj
  have hr := room_le h.ok j hj
  have hl := h.len64 j hj
  obtain ⟨N, hN⟩ : ∃ N, N = (l j).length := ⟨_, rfl⟩
  obtain ⟨R, hR⟩ : ∃ R, R = room c j := ⟨_, rfl⟩
  rw [← hN] at c1 hl ⊢
  rw [← hR] at c2 hr ⊢
  have h0 : (0 : Int) ≤ (j : Int) := by omega
  have h2 : ¬ (2 : Int) < (j : Int) := by omega
  have h3 : (j : Int) < 3 := by omega
  clear h hN hR
  go_enter Try.func11, Try.ntmps11
  go_wp2
  go_quiet (fail)
  go_wp2
  go_ret
  exact ⟨rfl, below_drewN (Below.refl _ _) _⟩

theorem rat_ret {w wr : World} {m : Msg} {q : Value} {a : Act} {g : Nat} (hp : a.tmps.getD 6 undef = .pointer (some ⟨g, 0, none⟩)) (hq : a.tmps.getD 7 undef = q) (hd : a.defers = []) (hg : wr.heap[g]? = some (.cells (mga m) 37 (0, 0))) (hb : Below w.heap.size w wr) :
    bodyPost Try.prog Try.f9 (RetM w m q) Exit.ret a wr :=
  bodyPost_ret (v := .tuple #[.agg (mga m), a.tmps.getD 7 undef]) (results_cell_two Try.results9 _ _ g 37 _ (0, 0) _ hp hg Try.underlying37 rfl (by kernel_rfl)) hd ⟨by rw [hq], hb⟩

set_option maxRecDepth 100000 in
set_option maxHeartbeats 1000000 in
theorem rat_out (p : Value) (k i : Int) (w : World) (hk : k < 0 ∨ 3 ≤ k) :
    Calls Try.prog 9 #[p, .int .i64 k, .int .i64 i] w (RetM w m0 (.bool false)) := by
  rcases hk with hk | hk
  · go_enter Try.func9, Try.ntmps9
    go_wp2_with ((with_reducible refine wpList_store_row (o := ⟨none, _, _, _, _, _⟩) rfl 37 (.tmp 6) (.tmp 29) rfl w.heap.size (mga m0) ?sx ?sy 37 ?old ?sg ?si ?so ?s1 ?_); (case sx => rfl); (case sy => rfl); (case sg => exact heap_alloc_new w _); (case si => kernel_rfl); (case so => rfl); (case s1 => kernel_rfl))
    exact rat_ret rfl rfl rfl (setRow_heap _ _ _ _ _ _ (heap_alloc_new w _)) (below_setRow ((Below.refl _ _).alloc (Nat.le_refl _) _) (Nat.le_refl _) _)
  · have h1 : ¬ k < 0 := by omega
    have h2 : 2 < k := by omega
    go_enter Try.func9, Try.ntmps9
    go_wp2_with ((with_reducible refine wpList_store_row (o := ⟨none, _, _, _, _, _⟩) rfl 37 (.tmp 6) (.tmp 29) rfl w.heap.size (mga m0) ?sx ?sy 37 ?old ?sg ?si ?so ?s1 ?_); (case sx => rfl); (case sy => rfl); (case sg => exact heap_alloc_new w _); (case si => kernel_rfl); (case so => rfl); (case s1 => kernel_rfl))
    exact rat_ret rfl rfl rfl (setRow_heap _ _ _ _ _ _ (heap_alloc_new w _)) (below_setRow ((Below.refl _ _).alloc (Nat.le_refl _) _) (Nat.le_refl _) _)
set_option maxRecDepth 100000 in
set_option maxHeartbeats 1000000 in
theorem rat_none (h : RefP w B r c l u) (j : Nat) (i : Int) (hj : j < 3) (hn : i < 0 ∨ ((l j).length : Int) ≤ i) :
    Calls Try.prog 9 #[.pointer (some ⟨r, 0, none⟩), .int .i64 j, .int .i64 i] w (RetM w m0 (.bool false)) := by
  obtain ⟨p, cap, -, c1, -, -, -⟩ := h.cells j hj
  have hl := h.len64 j hj
  obtain ⟨N, hN⟩ : ∃ N, N = (l j).length := ⟨_, rfl⟩
  rw [← hN] at c1 hl hn
  have ca : ∀ o, (w.alloc o).cell? ⟨r, 13 + j, none⟩ = some (.slice p N cap) := fun o => Lib.cell?_alloc_some o c1
  have h0 : ¬ (j : Int) < 0 := by omega
  have h2 : ¬ (2 : Int) < (j : Int) := by omega
  have h3 : (j : Int) < 3 := by omega
  have h4 : (0 : Int) ≤ (j : Int) := by omega
  clear h hN hj
  rcases hn with hn | hn
  · go_enter Try.func9, Try.ntmps9
    go_wp2_with ((with_reducible refine wpList_store_row (o := ⟨none, _, _, _, _, _⟩) rfl 37 (.tmp 6) (.tmp 29) rfl w.heap.size (mga m0) ?sx ?sy 37 ?old ?sg ?si ?so ?s1 ?_); (case sx => rfl); (case sy => rfl); (case sg => exact heap_alloc_new w _); (case si => kernel_rfl); (case so => rfl); (case s1 => kernel_rfl))
    exact rat_ret rfl rfl rfl (setRow_heap _ _ _ _ _ _ (heap_alloc_new w _)) (below_setRow ((Below.refl _ _).alloc (Nat.le_refl _) _) (Nat.le_refl _) _)
  · have hn1 : ¬ i < 0 := by omega
    go_enter Try.func9, Try.ntmps9
    go_wp2_with ((with_reducible refine wpList_store_row (o := ⟨none, _, _, _, _, _⟩) rfl 37 (.tmp 6) (.tmp 29) rfl w.heap.size (mga m0) ?sx ?sy 37 ?old ?sg ?si ?so ?s1 ?_); (case sx => rfl); (case sy => rfl); (case sg => exact heap_alloc_new w _); (case si => kernel_rfl); (case so => rfl); (case s1 => kernel_rfl))
    exact rat_ret rfl rfl rfl (setRow_heap _ _ _ _ _ _ (heap_alloc_new w _)) (below_setRow ((Below.refl _ _).alloc (Nat.le_refl _) _) (Nat.le_refl _) _)
set_option maxRecDepth 100000 in
set_option maxHeartbeats 1000000 in
theorem rat_yes (h : RefP w B r c l u) (j i : Nat) (x : Msg) (hj : j < 3) (hx : (l j)[i]? = some x) :
    Calls Try.prog 9 #[.pointer (some ⟨r, 0, none⟩), .int .i64 j, .int .i64 i] w (RetM w x (.bool true)) := by
  obtain ⟨p, cap, -, c1, -, -, hm⟩ := h.cells j hj
  have hl := h.len64 j hj
  have hi : i < (l j).length := (List.getElem?_eq_some_iff.1 hx).1
  obtain ⟨g, rfl, hg, hr⟩ := hm i x hx
  obtain ⟨N, hN⟩ : ∃ N, N = (l j).length := ⟨_, rfl⟩
  rw [← hN] at c1 hl hi
  have ca : ∀ o, (w.alloc o).cell? ⟨r, 13 + j, none⟩ = some (.slice (some ⟨g, 0, none⟩) N cap) := fun o => Lib.cell?_alloc_some o c1
  have HR := Lib.hid hr
  have h0 : ¬ (j : Int) < 0 := by omega
  have h2 : ¬ (2 : Int) < (j : Int) := by omega
  have h3 : (j : Int) < 3 := by omega
  have h4 : (0 : Int) ≤ (j : Int) := by omega
  have h5 : ¬ (N : Int) ≤ (i : Int) := by omega
  clear h hN hj hm hx hr hg
  go_enter Try.func9, Try.ntmps9
  go_wp2_with (first
    | ((with_reducible refine wpList_load_mid (op := ⟨some 38, _, _, _, _, _⟩) rfl 37 (.tmp 37) rfl g (i * 15) ?lx (mg x) _ ?lc Try.underlying37 ?ld ?li ?_); (case lx => rfl); (case lc => exact World.rangeAt_alloc HR.out _); (case ld => rfl); (case li => kernel_rfl))
    | ((with_reducible refine wpList_store_row (o := ⟨none, _, _, _, _, _⟩) rfl 37 (.tmp 6) (.tmp 38) rfl w.heap.size (mga x) ?sx ?sy 37 ?old ?sg ?si ?so ?s1 ?_); (case sx => rfl); (case sy => rfl); (case sg => exact heap_alloc_new w _); (case si => kernel_rfl); (case so => rfl); (case s1 => kernel_rfl)))
  exact rat_ret rfl rfl rfl (setRow_heap _ _ _ _ _ _ (heap_alloc_new w _)) (below_setRow ((Below.refl _ _).alloc (Nat.le_refl _) _) (Nat.le_refl _) _)

set_option maxRecDepth 100000 in
/-- Empty. -/
theorem rempty_any (h : RefP w B r c l u) :
    Calls Try.prog 19 #[.pointer (some ⟨r, 0, none⟩)] w fun e w' => e = .returned (.bool (allOf l).isEmpty) ∧ Below w.heap.size w w' := by
  obtain ⟨p0, k0, -, c0, -, -, -⟩ := h.cells 0 (by omega)
  obtain ⟨p1, k1, -, c1, -, -, -⟩ := h.cells 1 (by omega)
  obtain ⟨p2, k2, -, c2, -, -, -⟩ := h.cells 2 (by omega)
  have n0 := h.len64 0 (by omega)
  have n1 := h.len64 1 (by omega)
  have n2 := h.len64 2 (by omega)
  have HE : Hid ((((l 0).length : Int) + ((l 1).length : Int) + ((l 2).length : Int) == 0) = (allOf l).isEmpty) := Lib.hid (by
    unfold allOf
    rw [Bool.eq_iff_iff]
    simp
    rw [← List.length_eq_zero_iff, ← List.length_eq_zero_iff, ← List.length_eq_zero_iff]
    omega)
  simp only [Nat.add_zero] at c0 c1 c2
  obtain ⟨a, ha⟩ : ∃ a, a = (l 0).length := ⟨_, rfl⟩
  obtain ⟨a1, ha1⟩ : ∃ a, a = (l 1).length := ⟨_, rfl⟩
  obtain ⟨a2, ha2⟩ : ∃ a, a = (l 2).length := ⟨_, rfl⟩
  rw [← ha] at c0 n0 HE
  rw [← ha1] at c1 n1 HE
  rw [← ha2] at c2 n2 HE
  clear h ha ha1 ha2
  go_enter Try.func19, Try.ntmps19
  go_wp2
  go_quiet (fail)
  go_wp2
  go_ret
  exact ⟨ret_bool HE.out, below_drewN (Below.refl _ _) _⟩

end Go.Proofs.Ytdggjbaapnkcgaa
