/-
  The document's Sent.
-/
import Derived.Test.YtnpbbkiojoafbaaQuY
namespace Go.Proofs.Ytnpbbkiojoafbaa
open Go Go.RowKit

theorem PutGave.behind {T e : TypeId} {w w1 w2 : World} {B b : Nat} {room : Int} {l : List Ep} {v : Value} (h : PutGave T e 17 ec w1 B b room l v w2) (ht : Turn b v w w1) : PutGave T e 17 ec w B b room l v w2 := by
  obtain ⟨v', h1, h2, h3⟩ := h
  exact ⟨v', h1, ht.trans h2 (Fresh.refl _ _), fun k hk => (h3 k hk).imp id fun h4 => Nat.le_trans ht.size h4⟩
theorem MIn.tail {w : World} {g o : Nat} {m : Msg} {r : List Msg} (h : MIn w (some ⟨g, o, none⟩) (m :: r)) : MIn w (some ⟨g, o + 15, none⟩) r := fun i x hx => by
  obtain ⟨g', o', e, hg, hr⟩ := h (i + 1) x (by simpa using hx)
  cases e
  exact ⟨g, o + 15, rfl, hg, by rw [show o + 15 + i * 15 = o + (i + 1) * 15 by omega]; exact hr⟩
/-- What is left of a list without its first. -/
theorem slice1 (g o n c : Nat) (h : n + 1 ≤ c) : ∃ D : Addr, (∀ w, (Instr.slice 36 (.slice (some ⟨g, o, none⟩) (n + 1) c) (some (.int .i64 1)) none none).run Try.prog w = .ok (.slice (some D) n (c - 1)) w) ∧ (n ≠ 0 → D = ⟨g, o + 15, none⟩) := by
  have he : Try.prog.elem 36 = 35 := by kernel_rfl
  have hs : ∀ w, (sizeOf 35).run Try.prog w = .ok 15 w := fun w => by kernel_rfl
  have hu : Try.prog.underlying 36 = some (.slice (Try.prog.elem 36)) := by rw [he]; exact Try.underlying36
  have hr := fun w => run_slice_l (P := Try.prog) w 36 (some ⟨g, o, none⟩) (n + 1) c hu .i64 1 (by omega) (by omega)
  by_cases h0 : c = 1
  · refine ⟨⟨g, o, none⟩, fun w => ?_, fun h => by omega⟩
    rw [hr w, he, hs]
    simp [Result.andThen, sliced, h0]
  · refine ⟨⟨g, o + 15, none⟩, fun w => ?_, fun _ => rfl⟩
    rw [hr w, he, hs]
    simp [Result.andThen, sliced, h0, Addr.add_lit]

/-- The list behind Sent. -/
def sentL (l : List En) (i : Nat) (x : Ep) (r : List Msg) : List En := if r = [] ∧ x.m.kd = 3 then l.eraseIdx i else l.set i ⟨x.m, x.st, r⟩
theorem sentL_gone {l : List En} {i : Nat} {x : Ep} {r : List Msg} (h : r = [] ∧ x.m.kd = 3) : sentL l i x r = l.eraseIdx i := if_pos h
theorem sentL_yes {l : List En} {i : Nat} {x : Ep} {r : List Msg} (h : ¬ (r = [] ∧ x.m.kd = 3)) : sentL l i x r = l.set i ⟨x.m, x.st, r⟩ := if_neg h

set_option maxHeartbeats 1000000 in
theorem refSent_out {w : World} {B b : Nat} {room : Int} {l : List Ep} {v : Value} (h : BgD w B b room l v) (at_ : Int) (hn : at_ < 0 ∨ (l.length : Int) ≤ at_) :
    Calls Try.prog 14 #[.pointer (some ⟨b, 0, none⟩), .int .i64 at_] w fun e w' => e = .returned (.int .i64 5) ∧ Below w.heap.size w w' := by
  have HP := Lib.hid (refHas_out h at_ hn)
  clear h hn
  go_enter Try.func14, Try.ntmps14
  go_wp2_with fail
  refine HP.out.mono ?_
  rintro e w1 ⟨rfl, rfl⟩
  go_wp2
  go_ret
  exact ⟨rfl, Below.refl _ _⟩
set_option maxHeartbeats 1000000 in
theorem refSent_no {w : World} {B b : Nat} {room : Int} {l : List Ep} {v : Value} (h : BgD w B b room l v) (i : Nat) (x : Ep) (hx : l[i]? = some x) (hs : x.l = []) :
    Calls Try.prog 14 #[.pointer (some ⟨b, 0, none⟩), .int .i64 i] w fun e w' => e = .returned (.int .i64 7) ∧ Below w.heap.size w w' := by
  have hi := (List.getElem?_eq_some_iff.1 hx).1
  obtain ⟨g, cap, rfl, hbg, hgl, hBg, hr, hfz, _, _⟩ := h.one hx
  have HP := Lib.hid (refHas_at h i hi)
  have c1 := blk_cell h.blk 1
  simp at c1
  have HR := Lib.hid hr
  have HB2 := Lib.hid (below_box w (.cells zec 61) (ecells x))
  have HG2 : Hid (((w.alloc (.cells zec 61)).setRow w.heap.size (ecells x)).heap[w.heap.size]? = some (.cells (ecells x) 61 (0, 0))) := Lib.hid (setRow_heap _ _ _ _ _ _ (heap_alloc_new w _))
  have HS : Hid ((ecells x)[16]? = some (.slice x.p 0 x.c)) := Lib.hid (by
    show some (Value.slice x.p x.l.length x.c) = _
    rw [hs]
    rfl)
  clear h hx hr hfz hs
  go_enter Try.func14, Try.ntmps14
  go_wp2_with fail
  refine HP.out.mono ?_
  rintro e w1 ⟨rfl, rfl⟩
  go_wp2_with (first
    | ((with_reducible refine wpList_load_at (op := ⟨some 16, _, _, _, _, _⟩) rfl 61 (.tmp 15) rfl g (i * 17) ?lx (ecells x) _ ?lc Try.underlying61 ?ld ?li ?_); (case lx => rfl); (case lc => exact HR.out); (case ld => rfl); (case li => kernel_rfl))
    | ((with_reducible refine wpList_store_row (o := ⟨none, _, _, _, _, _⟩) rfl 61 (.tmp 5) (.tmp 16) rfl w.heap.size (ecells x) ?sx ?sy 61 ?old ?sg ?si ?so ?s1 ?_); (case sx => rfl); (case sy => rfl); (case old => exact zec); (case sg => exact heap_alloc_new w _); (case si => kernel_rfl); (case so => rfl); (case s1 => kernel_rfl); generalize (w.alloc (.cells zec 61)).setRow w.heap.size (ecells x) = w2 at *; have c16 := (blk_cell HG2.out 16).trans HS.out))
  go_ret
  exact ⟨rfl, HB2.out⟩
set_option maxRecDepth 100000 in
set_option maxHeartbeats 4000000 in
theorem refSent_yes {w : World} {B b : Nat} {room : Int} {l : List Ep} {g cap : Nat} (h : QuR w B b room l (.slice (some ⟨g, 0, none⟩) l.length cap)) (hB : B ≤ w.heap.size) (i : Nat) (x : Ep) (hx : l[i]? = some x) (hl : l.length ≤ 5000) (hf : x.l.length ≤ 5000) {m : Msg} {r : List Msg} (hs : x.l = m :: r) :
    Calls Try.prog 14 #[.pointer (some ⟨b, 0, none⟩), .int .i64 i] w fun e w' => e = .returned (.int .i64 0) ∧ QGave 53 61 w B b room l (.slice (some ⟨g, 0, none⟩) l.length cap) (sentL (l.map Ep.pl) i x r) w' := by
  obtain ⟨i0, hi0, hz0, hz1, hz2⟩ := info_parts A35
  have hi := (List.getElem?_eq_some_iff.1 hx).1
  have hgl := (h.bg.row.lt g rfl).2
  have hbl := h.bg.lt
  have hgb : b ≠ g := h.bg.off_of
  have HP := Lib.hid (refHas_at h.bg i hi)
  have c1 := blk_cell h.bg.blk 1
  simp at c1
  have hrx := own_at h.bg.row hx
  have HR := Lib.hid hrx
  have HS : Hid (∀ W, Below w.heap.size w W → W.cell? ⟨b, 1, none⟩ = some (.slice (some ⟨g, 0, none⟩) l.length cap)) := Lib.hid (fun W hb => (hb.cell (p := ⟨b, 1, none⟩) hbl).trans c1)
  have HO := Lib.hid (fun (W : World) (hb : Below w.heap.size w W) => (h.bg.below hb).row)
  have HX := Lib.hid hx
  have hm := (h.sd x (List.mem_of_getElem? hx)).1
  have hcp := h.cp x (List.mem_of_getElem? hx)
  rw [hs] at hm hcp hf
  obtain ⟨g2, o2, hp, -, -⟩ := hm 0 m rfl
  rw [hp] at hm
  obtain ⟨n, hn⟩ : ∃ n, r.length = n := ⟨_, rfl⟩
  simp only [List.length_cons] at hcp hf
  rw [hn] at hcp hf
  obtain ⟨D, hsl, hD⟩ := slice1 g2 o2 n x.c hcp
  have HC16 : Hid ((ecells x)[16]? = some (.slice (some ⟨g2, o2, none⟩) (n + 1) x.c)) := Lib.hid (by
    show some (Value.slice x.p x.l.length x.c) = _
    rw [hs, hp, List.length_cons, hn])
  have HPP : Hid (∀ W, Below w.heap.size w W → ∀ j u, (cellsOf mg r)[j]? = some u → W.cell? (D.add j) = some u) := Lib.hid (fun W hb j u hj => by
    have h2 := (hm.step hb).tail
    have hlt := (List.getElem?_eq_some_iff.1 hj).1
    rw [cellsOf_len mg_len, hn] at hlt
    rw [hD (by omega), Addr.add_lit]
    exact h2.all j u hj)
  have HL : Hid ((cellsOf mg r).length = n * 15) := Lib.hid (by rw [cellsOf_len mg_len, hn])
  have HM1 : Hid (∀ u ∈ cellsOf mg r, u.oneCell' = true) := Lib.hid (mg_cells r)
  have HN := Lib.hid hn
  have HE : Hid (∀ w1 w2 q c', Below w.heap.size w w1 → n ≤ c' → MIn w1 q r → (∀ a, q = some a → w.heap.size ≤ a.block) → w2.ownsRow B 61 17 (.slice (some ⟨g, 0, none⟩) l.length cap) (l.set i (⟨x.m, x.st, r, q, c'⟩ : Ep)).length (cellsOf ec (l.set i (⟨x.m, x.st, r, q, c'⟩ : Ep))) → Only g w1 w2 → ¬ (r = [] ∧ x.m.kd = 3) → QGave 53 61 w B b room l (.slice (some ⟨g, 0, none⟩) l.length cap) (sentL (l.map Ep.pl) i x r) w2) := Lib.hid (fun w1 w2 q c' hb hsc hq hf hown ho hk => by
    rw [sentL_yes hk]
    exact h.gaveSet (y := (⟨x.m, x.st, r, q, c'⟩ : Ep)) hB hgl hb hown ho (by show r.length ≤ c'; omega) fun _ => ⟨hq, hf⟩)
  have HG : Hid (∀ w1 w2 q c', Below w.heap.size w w1 → w2.ownsRow B 61 17 (.slice (some ⟨g, 0, none⟩) l.length cap) (l.set i (⟨x.m, x.st, r, q, c'⟩ : Ep)).length (cellsOf ec (l.set i (⟨x.m, x.st, r, q, c'⟩ : Ep))) → Only g w1 w2 → (r = [] ∧ x.m.kd = 3) → Calls Try.prog 30 #[.pointer (some ⟨b, 0, none⟩), .int .i64 i] w2 fun e w' => (∃ u, e = .returned u) ∧ QGave 53 61 w B b room l (.slice (some ⟨g, 0, none⟩) l.length cap) (sentL (l.map Ep.pl) i x r) w') := Lib.hid (fun w1 w2 q c' hb hown ho hk => by
    have hB2 : B ≤ w2.heap.size := by have := hb.size; have := ho.size; omega
    have hbg := h.bg.elem hb hown ho
    have ho2 := out_any hbg hB2 i (by rw [List.length_set]; exact hi) (by rw [List.length_set]; exact hl)
    refine ho2.mono fun e w' ⟨he, hp⟩ => ⟨he, ?_⟩
    rw [List.eraseIdx_set_eq] at hp
    have hq := h.gaveOld (hp.behind ((Turn.of_below hb).trans (turn_only (b := b) (n := l.length) (cap := cap) ho) (Fresh.refl _ _))) (fun z hz => h.cp z (List.mem_of_mem_eraseIdx hz)) fun z hz hne => h.of_mem (List.mem_of_mem_eraseIdx hz) hne
    rw [map_erase] at hq
    rw [sentL_gone hk]
    exact hq)
  have HCA : Hid (((n : Int) == 0) = false ∧ ¬ (r = [] ∧ x.m.kd = 3) ∨ ((n : Int) == 0) = true ∧ (x.m.kd == 3) = false ∧ ¬ (r = [] ∧ x.m.kd = 3) ∨ ((n : Int) == 0) = true ∧ (x.m.kd == 3) = true ∧ (r = [] ∧ x.m.kd = 3)) := Lib.hid (by
    by_cases hr : r = []
    · have h0 : n = 0 := by rw [← hn, hr]; rfl
      subst h0
      by_cases hk : x.m.kd = 3
      · exact .inr (.inr ⟨rfl, by simpa using hk, hr, hk⟩)
      · exact .inr (.inl ⟨rfl, by simpa using hk, fun e => hk e.2⟩)
    · have h0 : n ≠ 0 := fun e => hr (List.eq_nil_of_length_eq_zero (by omega))
      exact .inl ⟨beq_eq_false_iff_ne.2 (by omega), fun e => hr e.1⟩)
  have HB2 := Lib.hid (below_box w (.cells zec 61) (ecells x))
  have HG2 : Hid (((w.alloc (.cells zec 61)).setRow w.heap.size (ecells x)).heap[w.heap.size]? = some (.cells (ecells x) 61 (0, 0))) := Lib.hid (setRow_heap _ _ _ _ _ _ (heap_alloc_new w _))
  have HSZ2 : Hid (((w.alloc (.cells zec 61)).setRow w.heap.size (ecells x)).heap.size = w.heap.size + 1) := Lib.hid (by simp)
  clear h hx hs hrx hm hp hn hD
  go_enter Try.func14, Try.ntmps14
  go_wp2_with fail
  refine HP.out.mono ?_
  rintro e w1 ⟨rfl, rfl⟩
  clear HP
  go_wp2_with (first
    | ((with_reducible refine wpList_load_at (op := ⟨some 16, _, _, _, _, _⟩) rfl 61 (.tmp 15) rfl g (i * 17) ?lx (ecells x) _ ?lc Try.underlying61 ?ld ?li ?_); (case lx => rfl); (case lc => exact HR.out); (case ld => rfl); (case li => kernel_rfl))
    | ((with_reducible refine wpList_store_row (o := ⟨none, _, _, _, _, _⟩) rfl 61 (.tmp 5) (.tmp 16) rfl w.heap.size (ecells x) ?sx ?sy 61 ?old ?sg ?si ?so ?s1 ?_); (case sx => rfl); (case sy => rfl); (case old => exact zec); (case sg => exact heap_alloc_new w _); (case si => kernel_rfl); (case so => rfl); (case s1 => kernel_rfl); generalize (w.alloc (.cells zec 61)).setRow w.heap.size (ecells x) = w2 at *; have c16 := (blk_cell HG2.out 16).trans HC16.out; have c16b := fun o => Lib.cell?_alloc_some o c16; have HA2 := Lib.hid (World.ownsRow_made (base := w2.heap.size) (e := 35) (size := 15) w2 #[] 0 (Nat.le_refl _) (Nat.zero_le _) rfl))
    | (at_builtin; refine wpList_append_own _ rfl (.tmp 21) (.tmp 24) 36 rfl w2.heap.size 35 i0 (.agg (mcells z0)) 15 120 Try.underlying36 hi0 hz0 hz1 hz2 rfl (by decide) _ _ _ rfl HA2.out D n (x.c - 1) (cellsOf mg r) rfl HL.out ?c1 HM1.out ?c3 ?c4 ?c5 ?_))
  case c1 => exact HPP.out _ (bstep HB2.out (balloc _ _))
  case c3 => simp only [maxLen]; omega
  case c4 => omega
  case c5 => simp
  intro v' w4 hown hgrow hnil
  obtain ⟨q, c', hv, hin, hfr, hlc⟩ := own_min (l := r) (by rw [HN.out]; simpa using hown)
  rw [HN.out] at hv hlc
  subst hv
  have hsz2 := HSZ2.out
  have hb4 : w4.heap[w.heap.size]? = some (.cells (ecells x) 61 (0, 0)) := (hgrow.block w.heap.size (by simp; omega) (by simp [Value.ownBlock]; omega)).trans (((balloc w2 _).block w.heap.size (by omega)).trans HG2.out)
  have HB4 : Hid (Below w.heap.size w w4) := Lib.hid ((bstep HB2.out (balloc w2 _)).grown hgrow (by simp; omega) (by intro k hk; simp [Value.ownBlock] at hk; omega))
  have HQ := Lib.hid (⟨hlc, hin, hfr⟩ : n ≤ c' ∧ MIn w4 q r ∧ ∀ a, q = some a → w2.heap.size ≤ a.block)
  have HG4 := Lib.hid hb4
  have c4 := (blk_cell hb4 16).trans HC16.out
  have f4 := blk_free hb4 16
  clear hown hgrow hnil hin hfr hlc c16 c16b hb4 c1 HG2 HA2 HPP
  go_wp2_with fail
  obtain ⟨w5, hw5⟩ : ∃ X, X = w4.setCell ⟨w.heap.size, 16, none⟩ (.slice q n c') := ⟨_, rfl⟩
  rw [← hw5]
  have hb5 : w5.heap[w.heap.size]? = some (.cells (ecells (⟨x.m, x.st, r, q, c'⟩ : Ep)) 61 (0, 0)) := by
    rw [hw5, heap_setCell_same w4 w.heap.size 16 _ _ _ HG4.out, ← HN.out]
    rfl
  have ho5 : ∀ k, k ≠ w.heap.size → w5.heap[k]? = w4.heap[k]? := fun k hk => by rw [hw5]; exact heap_setCell_other _ _ _ _ hk
  have HB5 : Hid (Below w.heap.size w w5) := Lib.hid (HB4.out.trans ⟨by rw [hw5]; rfl, by rw [hw5]; rfl, by rw [hw5]; rfl, by rw [hw5]; simp [World.setCell], fun k hk => ho5 k (by omega)⟩)
  have HQ5 : Hid (n ≤ c' ∧ MIn w5 q r ∧ ∀ a, q = some a → w.heap.size ≤ a.block) := Lib.hid ⟨HQ.out.1, HQ.out.2.1.keep (by rw [hw5]; simp [World.setCell]) fun _ a ha _ => ho5 _ (by have := HQ.out.2.2 a ha; omega), fun a ha => by have := HQ.out.2.2 a ha; omega⟩
  have HG5 := Lib.hid hb5
  clear hw5 hb5 ho5 c4 f4 HG4 HQ
  obtain ⟨W0, hW⟩ : ∃ X, X = w5.drew := ⟨_, rfl⟩
  have hbd : Below w5.heap.size w5 W0 := by rw [hW]; exact (Below.refl _ _).drew
  have BB0 : Hid (Below w.heap.size w W0) := Lib.hid (bstep HB5.out hbd)
  have HQ0 : Hid (n ≤ c' ∧ MIn W0 q r ∧ ∀ a, q = some a → w.heap.size ≤ a.block) := Lib.hid ⟨HQ5.out.1, HQ5.out.2.1.step hbd, HQ5.out.2.2⟩
  have HG0 := Lib.hid ((hbd.block w.heap.size (lt_of_block HG5.out)).trans HG5.out)
  have hS0 : W0.cell? ⟨b, 1, none⟩ = some (.slice (some ⟨g, 0, none⟩) l.length cap) ∧ ∀ o, W0.cell? ⟨w.heap.size, o, none⟩ = (ecells (⟨x.m, x.st, r, q, c'⟩ : Ep))[o]? := ⟨HS.out _ BB0.out, blk_cell HG0.out⟩
  rw [hW] at hS0
  refine wp_region_noPanic ?_
  refine wp_region_held_drew (S := fun w' => w'.cell? ⟨b, 1, none⟩ = some (.slice (some ⟨g, 0, none⟩) l.length cap) ∧ ∀ o, w'.cell? ⟨w.heap.size, o, none⟩ = (ecells (⟨x.m, x.st, r, q, c'⟩ : Ep))[o]?) (by kernel_rfl) hS0 (fun hh => ?_)
  rw [← hW] at hh ⊢
  clear hW hS0 hbd HQ5 HG5 HB5
  refine wpAnyH_take (fuel := 7) (i := 0) (oi := ⟨some 27, _, _, _, _, _⟩) (v := .pointer (some ⟨b, 0, none⟩)) rfl (by kernel_rfl) (by kernel_rfl) (by kernel_rfl) (fun _ _ _ h => h) (Or.inl ⟨by rfl, ?_⟩) hh ?_
  · rintro w' ⟨hw', -⟩
    go_simp
  simp only [Act.put, List.setIfInBounds_toArray, List.set_cons_zero, List.set_cons_succ]
  refine wpAnyH_take (fuel := 6) (i := 1) (oi := ⟨some 28, _, _, _, _, _⟩) (v := .pointer (some ⟨b, 0, none⟩)) rfl (by kernel_rfl) (by kernel_rfl) (by kernel_rfl) (fun _ _ _ h => h) (Or.inl ⟨by rfl, ?_⟩) hh ?_
  · rintro w' ⟨hw', -⟩
    go_simp
  simp only [Act.put, List.setIfInBounds_toArray, List.set_cons_zero, List.set_cons_succ]
  refine wpAnyH_take (fuel := 5) (i := 2) (oi := ⟨some 29, _, _, _, _, _⟩) (v := .pointer (some ⟨b, 1, none⟩)) rfl (by kernel_rfl) (by kernel_rfl) (by kernel_rfl) (fun _ _ _ h => h) (Or.inl ⟨by rfl, ?_⟩) hh ?_
  · rintro w' ⟨hw', -⟩
    go_simp
  simp only [Act.put, List.setIfInBounds_toArray, List.set_cons_zero, List.set_cons_succ]
  refine wpAnyH_take (fuel := 4) (i := 3) (oi := ⟨some 30, _, _, _, _, _⟩) (v := .slice (some ⟨g, 0, none⟩) l.length cap) rfl (by kernel_rfl) (by kernel_rfl) (by kernel_rfl) (fun _ _ _ h => h) (Or.inl ⟨by rfl, ?_⟩) hh ?_
  · rintro w' ⟨hw', -⟩
    go_simp
  simp only [Act.put, List.setIfInBounds_toArray, List.set_cons_zero, List.set_cons_succ]
  refine wpAnyH_take (fuel := 3) (i := 4) (oi := ⟨some 31, _, _, _, _, _⟩) (v := .int .i64 i) rfl (by kernel_rfl) (by kernel_rfl) (by kernel_rfl) (fun _ _ _ h => h) (Or.inl ⟨by rfl, ?_⟩) hh ?_
  · rintro w' ⟨hw', -⟩
    go_simp
  simp only [Act.put, List.setIfInBounds_toArray, List.set_cons_zero, List.set_cons_succ]
  refine wpAnyH_take (fuel := 2) (i := 5) (oi := ⟨some 32, _, _, _, _, _⟩) (v := .agg (ecells (⟨x.m, x.st, r, q, c'⟩ : Ep))) rfl (by kernel_rfl) (by kernel_rfl) (by kernel_rfl) (fun _ _ _ h => h) (yields_at (by rfl) 61 (.tmp 5) rfl w.heap.size 0 rfl (ecells (⟨x.m, x.st, r, q, c'⟩ : Ep)) _ (fun w' h => box_range h.2) Try.underlying61 rfl (by kernel_rfl)) hh ?_
  simp only [Act.put, List.setIfInBounds_toArray, List.set_cons_zero, List.set_cons_succ]
  refine wpAnyH_take (fuel := 1) (i := 6) (oi := ⟨some 33, _, _, _, _, _⟩) (v := .pointer (some ⟨g, i * 17, none⟩)) rfl (by kernel_rfl) (by kernel_rfl) (by kernel_rfl) (fun _ _ _ h => h) (Or.inl ⟨by rfl, ?_⟩) hh ?_
  · rintro w' ⟨hw', -⟩
    go_simp
  simp only [Act.put, List.setIfInBounds_toArray, List.set_cons_zero, List.set_cons_succ]
  refine wpAnyH_ready (fuel := 0) (rs := [7]) (by kernel_rfl) (by simp) ?_
  refine AllReadyH.cons (o := ⟨none, _, _, _, _, _⟩) rfl (fun K hK => ?_) AllReadyH.nil
  refine step_store_elem rfl 61 (.tmp 33) (.tmp 32) rfl B 61 g i cap l x (⟨x.m, x.st, r, q, c'⟩ : Ep) rfl rfl (HO.out _ BB0.out) HX.out (by kernel_rfl) ?_
  intro W3 hown3 ho3
  have hb3 := (ho3.other w.heap.size (by omega)).trans HG0.out
  have HS3 : W3.cell? ⟨b, 1, none⟩ = some (.slice (some ⟨g, 0, none⟩) l.length cap) ∧ ∀ o, W3.cell? ⟨w.heap.size, o, none⟩ = (ecells (⟨x.m, x.st, r, q, c'⟩ : Ep))[o]? := ⟨(World.cell?_of_block (a := ⟨b, 1, none⟩) (ho3.other b hgb)).trans (HS.out _ BB0.out), blk_cell hb3⟩
  have HE3 := Lib.hid (HE.out _ W3 q c' BB0.out HQ0.out.1 HQ0.out.2.1 HQ0.out.2.2 hown3 ho3)
  have HG3 := Lib.hid (HG.out _ W3 q c' BB0.out hown3 ho3)
  refine hK.out _ _ HS3 (fun hhz => ?_)
  have cb := HS3.2
  clear hK K hh hhz hown3 ho3 HS3 hb3 HE HG HO HS
  have c16 : W3.cell? ⟨w.heap.size, 16, none⟩ = some (.slice q n c') := (cb 16).trans (by rw [← HN.out]; rfl)
  have c0 : W3.cell? ⟨w.heap.size, 0, none⟩ = some (.int .i64 x.m.kd) := cb 0
  clear cb
  try simp only [Act.put]
  refine wpAnyH_done (by kernel_rfl) ?_ _
  refine NoPanic.normal ?_
  rcases HCA.out with ⟨k1, k3⟩ | ⟨k1, k2, k3⟩ | ⟨k1, k2, k3⟩
  · have HF := Lib.hid (HE3.out k3)
    clear HE3 HG3 k3
    go_wp2
    go_ret
    exact ⟨rfl, HF.out⟩
  · have HF := Lib.hid (HE3.out k3)
    clear HE3 HG3 k3
    go_wp2
    go_ret
    exact ⟨rfl, HF.out⟩
  · have HF := Lib.hid (HG3.out k3)
    clear HE3 HG3 k3
    go_wp2_with fail
    refine HF.out.mono ?_
    rintro e w7 ⟨⟨u, rfl⟩, hq⟩
    have HQ7 := Lib.hid hq
    clear hq
    go_wp2
    go_ret
    exact ⟨rfl, HQ7.out⟩

/-- The document's Sent. -/
theorem refSent_any {w : World} {B b : Nat} {room : Int} {l : List Ep} {v : Value} (h : QuR w B b room l v) (hB : B ≤ w.heap.size) (at_ : Int) (hl : l.length ≤ 5000) (hf : ∀ x ∈ l, x.l.length ≤ 5000) :
    Calls Try.prog 14 #[.pointer (some ⟨b, 0, none⟩), .int .i64 at_] w (GaveD w B b room l v (sentP (l.map Ep.pl) at_)) := by
  rcases at_cases l at_ with ho | ⟨i, x, rfl, hx⟩
  · rw [sentP_out (by rwa [pl_len])]
    exact (refSent_out h.bg at_ ho).mono fun e w' ⟨he, hb⟩ => ⟨he, h.gave_same hb⟩
  · rcases hs : x.l with _ | ⟨m, r⟩
    · rw [sentP_no (pl_at hx) hs]
      exact (refSent_no h.bg i x hx hs).mono fun e w' ⟨he, hb⟩ => ⟨he, h.gave_same hb⟩
    · obtain ⟨g, cap, rfl, -⟩ := h.bg.one hx
      refine (refSent_yes h hB i x hx hl (hf x (List.mem_of_getElem? hx)) hs).mono fun e w' ⟨he, hq⟩ => ?_
      by_cases hk : r = [] ∧ x.m.kd = 3
      · rw [sentL_gone hk] at hq
        rw [sentP_gone (pl_at hx) (m := m) (by show x.l = _; rw [hs, hk.1]) hk.2]
        exact ⟨he, hq⟩
      · rw [sentL_yes hk] at hq
        rw [sentP_yes (pl_at hx) hs hk]
        exact ⟨he, hq⟩

end Go.Proofs.Ytnpbbkiojoafbaa
