/-
  The document's Start.
-/
import Derived.Test.YtnpbbkiojoafbaaQuK
namespace Go.Proofs.Ytnpbbkiojoafbaa
open Go Go.RowKit

theorem step_store_elem {P : Program} {ops : Array Oper} {o : Oper} {a : Act} {w : World} {K : Act → World → Prop} {Q : Exit → Act → World → Prop} {E : Prop} (hg : o.guard = none) (ty : TypeId) (x y : Operand) (ho : o.op = .store ty x y)
    (B e g i cap : Nat) (M : List Ep) (z nw : Ep) (hax : a.eval x = .pointer (some ⟨g, i * 17, none⟩)) (hay : a.eval y = .agg (ecells nw)) (hown : w.ownsRow B e 17 (.slice (some ⟨g, 0, none⟩) M.length cap) M.length (cellsOf ec M)) (hz : M[i]? = some z) (hi : (P.info? ty).map (·.size) = some 17)
    (h : ∀ w', w'.ownsRow B e 17 (.slice (some ⟨g, 0, none⟩) M.length cap) (M.set i nw).length (cellsOf ec (M.set i nw)) → Only g w w' → K (a.put o.dst undef) w') : if Region.wanted o (yielded ops a.tmps) = true then Oper.wp P o a w K Q else E := by
  have hw : Region.wanted o (yielded ops a.tmps) = true := by simp [Region.wanted, hg]
  rw [if_pos hw]
  exact wp_store_mid ty x y ho g (i * 17) (ecells nw) hax hay (own_there hown (List.getElem?_eq_some_iff.1 hz).1) (by simpa using hi) (all_oneCell_toArray (ec_one nw)) (h _ (own_store hown hz nw) (only_setCells _ _ _ _))
theorem turn_only {b g n cap : Nat} {w w' : World} (ho : Only g w w') : Turn b (.slice (some ⟨g, 0, none⟩) n cap) w w' := ⟨ho.os, ho.tape, ho.output, by have := ho.size; omega, fun k _ _ hk => ho.other k (fun e => hk (by rw [e]; rfl))⟩
theorem Bg.elem {T e : TypeId} {w w1 w2 : World} {B b g cap i : Nat} {room : Int} {l : List Ep} {y : Ep} (h : Bg T e 17 ec w B b room l (.slice (some ⟨g, 0, none⟩) l.length cap)) (hb : Below w.heap.size w w1) (hown : w2.ownsRow B e 17 (.slice (some ⟨g, 0, none⟩) l.length cap) (l.set i y).length (cellsOf ec (l.set i y))) (ho : Only g w1 w2) :
    Bg T e 17 ec w2 B b room (l.set i y) (.slice (some ⟨g, 0, none⟩) l.length cap) :=
  ⟨(ho.other b h.off_of).trans ((hb.block b h.lt).trans h.blk), hown, h.off, h.big⟩
/-- An entry is set anew. -/
theorem Qu.gaveSet {T e : TypeId} {w w1 w2 : World} {B b g cap i : Nat} {room : Int} {l : List Ep} {y : Ep} (h : Qu T e w B b room l (.slice (some ⟨g, 0, none⟩) l.length cap)) (hB : B ≤ w.heap.size) (hg : g < w.heap.size) (hb : Below w.heap.size w w1) (hown : w2.ownsRow B e 17 (.slice (some ⟨g, 0, none⟩) l.length cap) (l.set i y).length (cellsOf ec (l.set i y))) (ho : Only g w1 w2)
    (hc : y.l.length ≤ y.c) (hy : y.l ≠ [] → MIn w1 y.p y.l ∧ ∀ a, y.p = some a → w.heap.size ≤ a.block) : QGave T e w B b room l (.slice (some ⟨g, 0, none⟩) l.length cap) ((l.map Ep.pl).set i y.pl) w2 := by
  have := h.gaveNew hB (h.bg.elem hb hown ho) ((Turn.of_below hb).trans (turn_only (b := b) (n := l.length) (cap := cap) ho) (Fresh.refl _ _)) (fun z hz => by
    rcases List.mem_or_eq_of_mem_set hz with hz | rfl
    · exact h.cp z hz
    · exact hc) fun z hz hne => by
    rcases List.mem_or_eq_of_mem_set hz with hz | rfl
    · exact .inl (h.of_mem hz hne)
    · obtain ⟨h1, h2⟩ := hy hne
      exact .inr ⟨h1.keep (by have := ho.size; omega) fun _ a ha _ => ho.other _ (by have := h2 a ha; omega), h2⟩
  rw [List.map_set] at this
  exact this
theorem pre_cells {w : World} {g o : Nat} {x : Ep} (h : w.rangeAt g o (ec x)) : w.rangeAt g o (mcells x.m).toList := fun j v hv => by
  refine h j v ?_
  have hj := (List.getElem?_eq_some_iff.1 hv).1
  simp at hj
  rcases (show j = 0 ∨ j = 1 ∨ j = 2 ∨ j = 3 ∨ j = 4 ∨ j = 5 ∨ j = 6 ∨ j = 7 ∨ j = 8 ∨ j = 9 ∨ j = 10 ∨ j = 11 ∨ j = 12 ∨ j = 13 ∨ j = 14 by omega) with rfl | rfl | rfl | rfl | rfl | rfl | rfl | rfl | rfl | rfl | rfl | rfl | rfl | rfl | rfl
  all_goals exact hv
/-- Where an entry of a row of one's own lies. -/
theorem own_at {w : World} {B e g n cap i : Nat} {l : List Ep} {y : Ep} (h : w.ownsRow B e 17 (.slice (some ⟨g, 0, none⟩) n cap) l.length (cellsOf ec l)) (hy : l[i]? = some y) : w.rangeAt g (i * 17) (ec y) := by
  obtain ⟨p, c, e0, hin⟩ := own_ins h
  obtain ⟨g', rfl, _, hr⟩ := hin i y hy
  cases e0
  exact hr

set_option maxHeartbeats 1000000 in
theorem refStart_out {w : World} {B b : Nat} {room : Int} {l : List Ep} {v : Value} (h : BgD w B b room l v) (at_ : Int) (p : Option Addr) (n c : Nat) (hn : at_ < 0 ∨ (l.length : Int) ≤ at_) :
    Calls Try.prog 12 #[.pointer (some ⟨b, 0, none⟩), .int .i64 at_, .slice p n c] w fun e w' => e = .returned (.int .i64 5) ∧ Below w.heap.size w w' := by
  have HP := Lib.hid (refHas_out h at_ hn)
  clear h hn
  go_enter Try.func12, Try.ntmps12
  go_wp2_with fail
  refine HP.out.mono ?_
  rintro e w1 ⟨rfl, rfl⟩
  go_wp2
  go_ret
  exact ⟨rfl, Below.refl _ _⟩
set_option maxHeartbeats 1000000 in
theorem refStart_no {w : World} {B b : Nat} {room : Int} {l : List Ep} {v : Value} (h : BgD w B b room l v) (i : Nat) (hi : i < l.length) (hl : l.length ≤ 5000) (p : Option Addr) (n c : Nat) (hr : rdy (l.map Ep.pl) i = false ∨ rdy (l.map Ep.pl) i = true ∧ n = 0) :
    Calls Try.prog 12 #[.pointer (some ⟨b, 0, none⟩), .int .i64 i, .slice p n c] w fun e w' => e = .returned (.int .i64 7) ∧ Below w.heap.size w w' := by
  have HP := Lib.hid (refHas_at h i hi)
  have HR := refReady_any h i hl
  rcases hr with hr | ⟨hr, rfl⟩
  all_goals
    rw [hr] at HR
    have HR := Lib.hid HR
    clear h hr hl
    go_enter Try.func12, Try.ntmps12
    go_wp2_with fail
    refine HP.out.mono ?_
    rintro e w1 ⟨rfl, rfl⟩
    go_wp2_with fail
    refine HR.out.mono ?_
    rintro e w2 ⟨rfl, hb2⟩
    go_wp2
    go_ret
    exact ⟨rfl, hb2⟩
set_option maxRecDepth 100000 in
set_option maxHeartbeats 4000000 in
theorem refStart_yes {w : World} {B b : Nat} {room : Int} {l : List Ep} {g cap : Nat} (h : QuR w B b room l (.slice (some ⟨g, 0, none⟩) l.length cap)) (hB : B ≤ w.heap.size) (i : Nat) (x : Ep) (hx : l[i]? = some x) (hl : l.length ≤ 5000) (p : Option Addr) (c : Nat) (s : List Msg) (hs : MIn w p s) (hsl : s.length ≤ 5000) (h0 : 0 < s.length) (hr : rdy (l.map Ep.pl) i = true) :
    Calls Try.prog 12 #[.pointer (some ⟨b, 0, none⟩), .int .i64 i, .slice p s.length c] w fun e w' => e = .returned (.int .i64 0) ∧ QGave 53 61 w B b room l (.slice (some ⟨g, 0, none⟩) l.length cap) ((l.map Ep.pl).set i ⟨x.m, true, s⟩) w' := by
  obtain ⟨i0, hi0, hz0, hz1, hz2⟩ := info_parts A35
  have hi := (List.getElem?_eq_some_iff.1 hx).1
  have hgl := (h.bg.row.lt g rfl).2
  have hbl := h.bg.lt
  have hgb : b ≠ g := h.bg.off_of
  have HP := Lib.hid (refHas_at h.bg i hi)
  have HR := refReady_any h.bg i hl
  rw [hr] at HR
  have HR := Lib.hid HR
  have c1 := blk_cell h.bg.blk 1
  simp at c1
  have hrx := own_at h.bg.row hx
  have HS : Hid (∀ W, Below w.heap.size w W → W.cell? ⟨b, 1, none⟩ = some (.slice (some ⟨g, 0, none⟩) l.length cap) ∧ W.rangeAt g (i * 17) (mcells x.m).toList) := Lib.hid (fun W hb => ⟨(hb.cell (p := ⟨b, 1, none⟩) hbl).trans c1, pre_cells (fun j v hv => (hb.cell (p := ⟨g, i * 17 + j, none⟩) hgl).trans (hrx j v hv))⟩)
  have HO := Lib.hid (fun (W : World) (hb : Below w.heap.size w W) => (h.bg.below hb).row)
  have HX := Lib.hid hx
  obtain ⟨ad, rfl⟩ : ∃ ad, p = some ad := by
    cases s with
    | nil => simp at h0
    | cons m s => obtain ⟨g', o', e, _⟩ := hs 0 m rfl; exact ⟨_, e⟩
  have HPP : Hid (∀ W, Below w.heap.size w W → (some ad = none ∧ s.length = 0 ∧ c = 0) ∨ ∃ a, some ad = some a ∧ ∀ j u, (cellsOf mg s)[j]? = some u → W.cell? (a.add j) = some u) := Lib.hid (fun W hb => .inr ⟨ad, rfl, fun j u hj => by
    obtain ⟨y, hy⟩ : ∃ y, s[0]? = some y := ⟨_, List.getElem?_eq_getElem h0⟩
    have h2 := hs.step hb
    obtain ⟨g', o', e, _, _⟩ := h2 0 y hy
    cases e
    rw [Addr.add_lit]
    exact h2.all j u hj⟩)
  have HE : Hid (∀ w1 w2 q c', Below w.heap.size w w1 → s.length ≤ c' → MIn w1 q s → (∀ a, q = some a → w.heap.size ≤ a.block) → w2.ownsRow B 61 17 (.slice (some ⟨g, 0, none⟩) l.length cap) (l.set i ⟨x.m, true, s, q, c'⟩).length (cellsOf ec (l.set i ⟨x.m, true, s, q, c'⟩)) → Only g w1 w2 → QGave 53 61 w B b room l (.slice (some ⟨g, 0, none⟩) l.length cap) ((l.map Ep.pl).set i ⟨x.m, true, s⟩) w2) := Lib.hid (fun w1 w2 q c' hb hsc hq hf hown ho =>
    h.gaveSet (y := ⟨x.m, true, s, q, c'⟩) hB hgl hb hown ho hsc fun _ => ⟨hq, hf⟩)
  clear h hx hl hr hs hrx c1
  go_enter Try.func12, Try.ntmps12
  go_wp2_with fail
  refine HP.out.mono ?_
  rintro e w1 ⟨rfl, rfl⟩
  go_wp2_with fail
  refine HR.out.mono ?_
  rintro e w2 ⟨rfl, hb2⟩
  have HB2 := Lib.hid hb2
  clear hb2 HP HR
  have hn0 : ((s.length : Int) == 0) = false := beq_eq_false_iff_ne.2 (by omega)
  go_wp2_with fail
  obtain ⟨W0, hW⟩ : ∃ X, X = w2.drew := ⟨_, rfl⟩
  have BB0 : Hid (Below w.heap.size w W0) := Lib.hid (by rw [hW]; exact bstep HB2.out (Below.refl _ _).drew)
  have hS0 := HS.out _ BB0.out
  rw [hW] at hS0
  refine wp_region_noPanic ?_
  refine wp_region_held_drew (S := fun w' => w'.cell? ⟨b, 1, none⟩ = some (.slice (some ⟨g, 0, none⟩) l.length cap) ∧ w'.rangeAt g (i * 17) (mcells x.m).toList) (by kernel_rfl) hS0 (fun hh => ?_)
  rw [← hW] at hh ⊢
  clear hW hS0
  refine wpAnyH_take (fuel := 18) (i := 0) (oi := ⟨some 20, _, _, _, _, _⟩) (v := .pointer (some ⟨b, 0, none⟩)) rfl (by kernel_rfl) (by kernel_rfl) (by kernel_rfl) (fun _ _ _ h => h) (Or.inl ⟨by rfl, ?_⟩) hh ?_
  · rintro w' ⟨hw', -⟩
    go_simp
  simp only [Act.put, List.setIfInBounds_toArray, List.set_cons_zero, List.set_cons_succ]
  refine wpAnyH_take (fuel := 17) (i := 1) (oi := ⟨some 21, _, _, _, _, _⟩) (v := .pointer (some ⟨b, 0, none⟩)) rfl (by kernel_rfl) (by kernel_rfl) (by kernel_rfl) (fun _ _ _ h => h) (Or.inl ⟨by rfl, ?_⟩) hh ?_
  · rintro w' ⟨hw', -⟩
    go_simp
  simp only [Act.put, List.setIfInBounds_toArray, List.set_cons_zero, List.set_cons_succ]
  refine wpAnyH_take (fuel := 16) (i := 2) (oi := ⟨some 22, _, _, _, _, _⟩) (v := .pointer (some ⟨b, 1, none⟩)) rfl (by kernel_rfl) (by kernel_rfl) (by kernel_rfl) (fun _ _ _ h => h) (Or.inl ⟨by rfl, ?_⟩) hh ?_
  · rintro w' ⟨hw', -⟩
    go_simp
  simp only [Act.put, List.setIfInBounds_toArray, List.set_cons_zero, List.set_cons_succ]
  refine wpAnyH_take (fuel := 15) (i := 3) (oi := ⟨some 23, _, _, _, _, _⟩) (v := .slice (some ⟨g, 0, none⟩) l.length cap) rfl (by kernel_rfl) (by kernel_rfl) (by kernel_rfl) (fun _ _ _ h => h) (Or.inl ⟨by rfl, ?_⟩) hh ?_
  · rintro w' ⟨hw', -⟩
    go_simp
  simp only [Act.put, List.setIfInBounds_toArray, List.set_cons_zero, List.set_cons_succ]
  refine wpAnyH_take (fuel := 14) (i := 4) (oi := ⟨some 24, _, _, _, _, _⟩) (v := .int .i64 i) rfl (by kernel_rfl) (by kernel_rfl) (by kernel_rfl) (fun _ _ _ h => h) (Or.inl ⟨by rfl, ?_⟩) hh ?_
  · rintro w' ⟨hw', -⟩
    go_simp
  simp only [Act.put, List.setIfInBounds_toArray, List.set_cons_zero, List.set_cons_succ]
  refine wpAnyH_take (fuel := 13) (i := 5) (oi := ⟨some 25, _, _, _, _, _⟩) (v := .pointer (some ⟨b, 0, none⟩)) rfl (by kernel_rfl) (by kernel_rfl) (by kernel_rfl) (fun _ _ _ h => h) (Or.inl ⟨by rfl, ?_⟩) hh ?_
  · rintro w' ⟨hw', -⟩
    go_simp
  simp only [Act.put, List.setIfInBounds_toArray, List.set_cons_zero, List.set_cons_succ]
  refine wpAnyH_take (fuel := 12) (i := 6) (oi := ⟨some 26, _, _, _, _, _⟩) (v := .pointer (some ⟨b, 0, none⟩)) rfl (by kernel_rfl) (by kernel_rfl) (by kernel_rfl) (fun _ _ _ h => h) (Or.inl ⟨by rfl, ?_⟩) hh ?_
  · rintro w' ⟨hw', -⟩
    go_simp
  simp only [Act.put, List.setIfInBounds_toArray, List.set_cons_zero, List.set_cons_succ]
  refine wpAnyH_take (fuel := 11) (i := 7) (oi := ⟨some 27, _, _, _, _, _⟩) (v := .pointer (some ⟨b, 1, none⟩)) rfl (by kernel_rfl) (by kernel_rfl) (by kernel_rfl) (fun _ _ _ h => h) (Or.inl ⟨by rfl, ?_⟩) hh ?_
  · rintro w' ⟨hw', -⟩
    go_simp
  simp only [Act.put, List.setIfInBounds_toArray, List.set_cons_zero, List.set_cons_succ]
  refine wpAnyH_take (fuel := 10) (i := 8) (oi := ⟨some 28, _, _, _, _, _⟩) (v := .slice (some ⟨g, 0, none⟩) l.length cap) rfl (by kernel_rfl) (by kernel_rfl) (by kernel_rfl) (fun _ _ _ h => h) (Or.inl ⟨by rfl, ?_⟩) hh ?_
  · rintro w' ⟨hw', -⟩
    go_simp
  simp only [Act.put, List.setIfInBounds_toArray, List.set_cons_zero, List.set_cons_succ]
  refine wpAnyH_take (fuel := 9) (i := 9) (oi := ⟨some 29, _, _, _, _, _⟩) (v := .int .i64 i) rfl (by kernel_rfl) (by kernel_rfl) (by kernel_rfl) (fun _ _ _ h => h) (Or.inl ⟨by rfl, ?_⟩) hh ?_
  · rintro w' ⟨hw', -⟩
    go_simp
  simp only [Act.put, List.setIfInBounds_toArray, List.set_cons_zero, List.set_cons_succ]
  refine wpAnyH_take (fuel := 8) (i := 10) (oi := ⟨some 30, _, _, _, _, _⟩) (v := .pointer (some ⟨g, i * 17, none⟩)) rfl (by kernel_rfl) (by kernel_rfl) (by kernel_rfl) (fun _ _ _ h => h) (Or.inl ⟨by rfl, ?_⟩) hh ?_
  · rintro w' ⟨hw', -⟩
    go_simp
  simp only [Act.put, List.setIfInBounds_toArray, List.set_cons_zero, List.set_cons_succ]
  refine wpAnyH_take (fuel := 7) (i := 11) (oi := ⟨some 31, _, _, _, _, _⟩) (v := .pointer (some ⟨g, i * 17, none⟩)) rfl (by kernel_rfl) (by kernel_rfl) (by kernel_rfl) (fun _ _ _ h => h) (Or.inl ⟨by rfl, ?_⟩) hh ?_
  · rintro w' ⟨hw', -⟩
    go_simp
  simp only [Act.put, List.setIfInBounds_toArray, List.set_cons_zero, List.set_cons_succ]
  refine wpAnyH_take (fuel := 6) (i := 12) (oi := ⟨some 32, _, _, _, _, _⟩) (v := mv x.m) rfl (by kernel_rfl) (by kernel_rfl) (by kernel_rfl) (fun _ _ _ h => h) (yields_at (by rfl) 35 (.tmp 31) rfl g (i * 17) rfl (mcells x.m) _ (fun w' h => h.2) Try.underlying35 rfl (by kernel_rfl)) hh ?_
  simp only [Act.put, List.setIfInBounds_toArray, List.set_cons_zero, List.set_cons_succ]
  refine wpAnyH_take (fuel := 5) (i := 14) (oi := ⟨some 34, _, _, _, _, _⟩) (v := .slice (some ad) s.length c) rfl (by kernel_rfl) (by kernel_rfl) (by kernel_rfl) (fun _ _ _ h => h) (Or.inl ⟨by rfl, ?_⟩) hh ?_
  · rintro w' ⟨hw', -⟩
    go_simp
  simp only [Act.put, List.setIfInBounds_toArray, List.set_cons_zero, List.set_cons_succ]
  refine wpAnyH_ready (fuel := 4) (rs := [13]) (by kernel_rfl) (by simp) ?_
  refine AllReadyH.cons (o := ⟨some 33, _, _, _, _, _⟩) rfl (fun K hK => ?_) AllReadyH.nil
  go_simp
  obtain ⟨W1, hW⟩ : ∃ X, X = W0.alloc (.cells #[] 35) := ⟨_, rfl⟩
  rw [← hW]
  have BB1 : Hid (Below w.heap.size w W1) := Lib.hid (by rw [hW]; exact bstep BB0.out (balloc _ _))
  have HE1 := Lib.hid (show W1.ownsRow w.heap.size 35 15 (.slice (some ⟨W0.heap.size, 0, none⟩) 0 0) 0 [] by rw [hW]; exact World.ownsRow_made W0 #[] 0 BB0.out.size (Nat.zero_le _) rfl)
  show K _ _
  refine hK.out _ _ (HS.out _ BB1.out) (fun hh1 => ?_)
  clear hK K hh hW
  refine wpAnyH_ready (fuel := 3) (rs := [15]) (by kernel_rfl) (by simp) ?_
  refine AllReadyH.cons (o := ⟨some 35, _, _, _, _, _⟩) rfl (fun K hK => ?_) AllReadyH.nil
  refine step_append_sn rfl (.tmp 33) (.tmp 34) 36 rfl w.heap.size 35 i0 (.agg (mcells z0)) 15 120 Try.underlying36 hi0 hz0 hz1 hz2 rfl (by decide) _ 0 [] rfl HE1.out (some ad) s.length c (cellsOf mg s) rfl (cellsOf_len mg_len s) (HPP.out _ BB1.out) (mg_cells s) (by unfold maxLen; omega) (by omega) BB1.out.size ?_
  intro v1 W2 hown1 hgr1
  have BB2 := Lib.hid (BB1.out.grown hgr1 BB1.out.size (fun k hk => (HE1.out.lt k hk).1))
  rw [Nat.zero_add, List.nil_append] at hown1
  obtain ⟨q, c', rfl, hq, hf, hsc⟩ := own_min hown1
  have HQ := Lib.hid (⟨hsc, hq, hf⟩ : s.length ≤ c' ∧ MIn W2 q s ∧ ∀ a, q = some a → w.heap.size ≤ a.block)
  refine hK.out _ _ (HS.out _ BB2.out) (fun hh2 => ?_)
  clear hK K hh1 hown1 hgr1 hq hf hsc HE1 HPP
  simp only [Act.put, List.setIfInBounds_toArray, List.set_cons_zero, List.set_cons_succ]
  refine wpAnyH_take (fuel := 2) (i := 16) (oi := ⟨some 36, _, _, _, _, _⟩) (v := .agg (ecells ⟨x.m, true, s, q, c'⟩)) rfl (by kernel_rfl) (by kernel_rfl) (by kernel_rfl) (fun _ _ _ h => h) (Or.inl ⟨by rfl, ?_⟩) hh2 ?_
  · rintro w' ⟨hw', -⟩
    go_simp
  simp only [Act.put, List.setIfInBounds_toArray, List.set_cons_zero, List.set_cons_succ]
  refine wpAnyH_take (fuel := 1) (i := 17) (oi := ⟨some 37, _, _, _, _, _⟩) (v := .pointer (some ⟨g, i * 17, none⟩)) rfl (by kernel_rfl) (by kernel_rfl) (by kernel_rfl) (fun _ _ _ h => h) (Or.inl ⟨by rfl, ?_⟩) hh2 ?_
  · rintro w' ⟨hw', -⟩
    go_simp
  simp only [Act.put, List.setIfInBounds_toArray, List.set_cons_zero, List.set_cons_succ]
  refine wpAnyH_ready (fuel := 0) (rs := [18]) (by kernel_rfl) (by simp) ?_
  refine AllReadyH.cons (o := ⟨none, _, _, _, _, _⟩) rfl (fun K hK => ?_) AllReadyH.nil
  refine step_store_elem rfl 61 (.tmp 37) (.tmp 36) rfl B 61 g i cap l x ⟨x.m, true, s, q, c'⟩ rfl rfl (HO.out _ BB2.out) HX.out (by kernel_rfl) ?_
  intro W3 hown3 ho3
  have HG := Lib.hid (HE.out _ W3 q c' BB2.out HQ.out.1 HQ.out.2.1 HQ.out.2.2 hown3 ho3)
  have HS3 : W3.cell? ⟨b, 1, none⟩ = some (.slice (some ⟨g, 0, none⟩) l.length cap) ∧ W3.rangeAt g (i * 17) (mcells x.m).toList := ⟨(World.cell?_of_block (a := ⟨b, 1, none⟩) (ho3.other b hgb)).trans (HS.out _ BB2.out).1, pre_cells (x := ⟨x.m, true, s, q, c'⟩) (own_at hown3 (List.getElem?_set_self hi))⟩
  refine hK.out _ _ HS3 (fun _ => ?_)
  clear hK K hh2 hown3 ho3 HS3
  try simp only [Act.put]
  refine wpAnyH_done (by kernel_rfl) ?_ _
  refine NoPanic.normal ?_
  go_wp2
  go_ret
  exact ⟨rfl, HG.out⟩

/-- The document's Start. -/
theorem refStart_any {w : World} {B b : Nat} {room : Int} {l : List Ep} {v : Value} (h : QuR w B b room l v) (hB : B ≤ w.heap.size) (at_ : Int) (hl : l.length ≤ 5000) (p : Option Addr) (c : Nat) (s : List Msg) (hs : MIn w p s) (hsl : s.length ≤ 5000) :
    Calls Try.prog 12 #[.pointer (some ⟨b, 0, none⟩), .int .i64 at_, .slice p s.length c] w (GaveD w B b room l v (startP (l.map Ep.pl) at_ s)) := by
  rcases at_cases l at_ with ho | ⟨i, x, rfl, hx⟩
  · rw [startP_out (by rwa [pl_len])]
    exact (refStart_out h.bg at_ p _ c ho).mono fun e w' ⟨he, hb⟩ => ⟨he, h.gave_same hb⟩
  · have hi := (List.getElem?_eq_some_iff.1 hx).1
    by_cases hr : rdy (l.map Ep.pl) i = false ∨ s = []
    · rw [startP_no (pl_at hx) hr]
      refine (refStart_no h.bg i hi hl p _ c ?_).mono fun e w' ⟨he, hb⟩ => ⟨he, h.gave_same hb⟩
      rcases Bool.eq_false_or_eq_true (rdy (l.map Ep.pl) i) with h1 | h1
      · rcases hr with hr | hr
        · rw [h1] at hr; cases hr
        · exact .inr ⟨h1, by rw [hr]; rfl⟩
      · exact .inl h1
    · simp only [not_or, Bool.not_eq_false] at hr
      rw [startP_yes (pl_at hx) hr.1 hr.2]
      obtain ⟨g, cap, rfl, -⟩ := h.bg.one hx
      exact (refStart_yes h hB i x hx hl p c s hs hsl (List.length_pos_iff.2 hr.2) hr.1).mono fun e w' ⟨he, hq⟩ => ⟨he, hq⟩

end Go.Proofs.Ytnpbbkiojoafbaa
