/-
  What Done, Entry and Line of a home do.
-/
import Derived.Test.YtpknfbgnclgpmaaGreatDoorHoC
namespace Go.Proofs.YtpknfbgnclgpmaaGreatDoor.Ho
open Go Go.RowKit

variable {w0 w w' wr : World} {K : Kb} {c : Cfg} {n : Int} {s : Hs} {X : Nat → Obj → Prop} {bx : Bx}
set_option maxRecDepth 100000 in
set_option maxHeartbeats 2000000 in
theorem Own.doneF (h : Own w0 K c n s X bx w) (m : Msg) :
    Calls Tryz.prog 27 #[ptr K.h, mv m] w fun e w' => e = .returned (.int .i64 (doneP c n s m).1) ∧ Own w0 K c n (doneP c n s m).2 X bx w' := by
  have H1 := Lib.hid (h.add (.cells (mcells m) 38))
  have HMe := Lib.hid (fun w1 (h : Own w0 K c n s X ((w.heap.size, .cells (mcells m) 38 (0, 0)) :: bx) w1) => h.meant m)
  have hq : meantB c n m = false ∧ doneP c n s m = (1, s) ∨ meantB c n m = true ∧ ((m.kd != 11) = true ∧ doneP c n s m = (1, s) ∨ (m.kd != 11) = false ∧ doneP c n s m = ((Qu.finP s.Q m.ln m.fr).1, { s with Q := (Qu.finP s.Q m.ln m.fr).2 })) := by
    unfold doneP
    rcases Bool.eq_false_or_eq_true (meantB c n m) with h1 | h1
    · right
      refine ⟨h1, ?_⟩
      by_cases h2 : m.kd = 11
      · right; simp [h1, h2]
      · left; simp [h2]
    · left; simp [h1]
  have HQ := Lib.hid hq
  have hc1 := H1.out.cells (List.mem_cons_self ..)
  clear h hq
  rcases HQ.out with ⟨e1, e2⟩ | ⟨e1, ⟨e3, e2⟩ | ⟨e3, e2⟩⟩
  · rw [e1] at HMe
    have HE := Lib.hid e2
    clear e1 e2 HQ
    go_enter Tryz.func27, Tryz.ntmps27
    go_wp2_with (go_at_call 57; refine (HMe.out _ H1.out).mono ?_; rintro e w2 ⟨rfl, hb2⟩; have H2 := Lib.hid (H1.out.step hb2); clear hb2)
    go_ret
    rw [HE.out]
    exact ⟨rfl, H2.out.drop⟩
  · rw [e1] at HMe
    have HE := Lib.hid e2
    clear e1 e2 HQ
    go_enter Tryz.func27, Tryz.ntmps27
    go_wp2_with (go_at_call 57; refine (HMe.out _ H1.out).mono ?_; rintro e w2 ⟨rfl, hb2⟩; have H2 := Lib.hid (H1.out.step hb2); have hc2 := H2.out.cells (List.mem_cons_self ..); clear hb2)
    go_ret
    rw [HE.out]
    exact ⟨rfl, H2.out.drop⟩
  · rw [e1] at HMe
    have HE := Lib.hid e2
    have HA := Lib.hid (fun w1 (h : Own w0 K c n s X ((w.heap.size, .cells (mcells m) 38 (0, 0)) :: bx) w1) => h.finR m.ln m.fr)
    clear e1 e2 HQ
    go_enter Tryz.func27, Tryz.ntmps27
    go_wp2_with (go_at_call 57; refine (HMe.out _ H1.out).mono ?_; rintro e w2 ⟨rfl, hb2⟩; have H2 := Lib.hid (H1.out.step hb2); have hc2 := H2.out.cells (List.mem_cons_self ..); clear hb2)
    have hk2 := H2.out.hc
    clear H1 hc1
    go_region_held3 (fun w' => (∀ o, w'.cell? ⟨K.h, o, none⟩ = (hcells c n K s.od)[o]?) ∧ (∀ o, w'.cell? ⟨w.heap.size, o, none⟩ = (mcells m)[o]?))
      (first | exact ⟨hk2, hc2⟩ | exact ⟨H4.out.hc, H4.out.cells (List.mem_cons_self ..)⟩ | go_keep)
      (first
        | (go_at_call 64; refine (HA.out _ (by first | exact H2.out | exact H2.out.drew)).mono ?_; rintro e w4 ⟨rfl, h4⟩; have H4 := Lib.hid h4; clear h4))
    go_wp2
    go_ret
    rw [HE.out]
    exact ⟨rfl, H4.out.drop⟩

/-! Entry. -/
/-- What Entry gives: an entry with pointers of its own. -/
def EntG (w : World) (e : Sh.En) (q : Bool) (r : Ending) (w' : World) : Prop := ∃ p cap, r = .returned (.tuple #[Sh.ev e p cap, .bool q]) ∧ Sh.NumsIn w' p e.s.l ∧ Below w.heap.size w w' ∧ (e.s.l ≠ [] → ∀ a, p = some a → w.heap.size ≤ a.block)
theorem ent_ret {w wr : World} {e : Sh.En} {q : Bool} {a : Act} {g : Nat} {p : Option Addr} {cap : Nat} (hp : a.tmps.getD 4 undef = .pointer (some ⟨g, 0, none⟩)) (hq : a.tmps.getD 5 undef = .bool q) (hd : a.defers = [])
    (hg : wr.heap[g]? = some (.cells (Sh.ecells e p cap) 65 (0, 0))) (hn : Sh.NumsIn wr p e.s.l) (hb : Below w.heap.size w wr) (hf : e.s.l ≠ [] → ∀ a, p = some a → w.heap.size ≤ a.block) : bodyPost Tryz.prog Tryz.f18 (EntG w e q) Exit.ret a wr :=
  bodyPost_ret (v := .tuple #[.agg (Sh.ecells e p cap), a.tmps.getD 5 undef]) (Qu.results_cell_two Tryz.results18 _ _ g 65 _ (0, 0) _ hp hg Tryz.underlying65 rfl (by kernel_rfl)) hd ⟨p, cap, by rw [hq], hn, hb, hf⟩
/-- What a home knows of a line, or nothing. -/
def tellE (c : Cfg) (n : Int) (s : Hs) (y : Int) : Sh.En := if ownB c n y = true then s.E y else Sh.zE
theorem may_len {e : Sh.En} (h : e.may = true) : e.s.l.length ≤ 8 := (Sh.may_bounds (Sh.may_parts h).1).2.2.2.2
theorem Own.tell (h : Own w0 K c n s X bx w) (y : Int) (hw : (Lit.int .i64 y).wf = true) : ∃ p cap, (Instr.lookup 92 (.map (some K.m)) (.int .i64 y) true).run Tryz.prog w = .ok (.tuple #[Sh.ev (tellE c n s y) p cap, .bool (ownB c n y)]) w ∧ Sh.NumsIn w p (tellE c n s y).s.l ∧ (tellE c n s y).s.l.length ≤ 8 := by
  unfold tellE
  rcases Bool.eq_false_or_eq_true (ownB c n y) with hy | hy
  · obtain ⟨p, cap, hl, hn⟩ := h.ent y hy hw
    have hlk := hl true
    rw [if_pos rfl] at hlk
    refine ⟨p, cap, ?_, ?_, ?_⟩
    · rw [if_pos hy, hy]; exact hlk
    · rw [if_pos hy]; exact hn
    · rw [if_pos hy]; exact may_len (h.gd.en y hy).may
  · refine ⟨none, 0, ?_, ?_, ?_⟩
    · rw [if_neg (by simp [hy]), hy]; exact h.noent y hy hw
    · rw [if_neg (by simp [hy])]; exact Sh.NumsIn.nil _ _
    · rw [if_neg (by simp [hy])]; exact Nat.zero_le _
set_option maxRecDepth 100000 in
set_option maxHeartbeats 2000000 in
theorem Own.entryF (h : Own w0 K c n s X bx w) (y : Int) (hw : (Lit.int .i64 y).wf = true) :
    Calls Tryz.prog 18 #[ptr K.h, .int .i64 y] w (EntG w (tellE c n s y) (ownB c n y)) := by
  have h1 := h.add (.cells Sh.zec 65)
  obtain ⟨p, cap, hlk, hn, hl⟩ := h1.tell y hw
  have hk := h1.hc
  have K0 := H2.box w (.cells Sh.zec 65) (.cells Sh.zec 65)
  have hn2 := hn.step (Qu.below_box (w.alloc (.cells Sh.zec 65)) (.cells Sh.zec 65) (Sh.ecells (tellE c n s y) p cap))
  rw [show (w.alloc (.cells Sh.zec 65)).heap.size = w.heap.size + 1 by simp] at hn2
  have HN := Lib.hid hn2
  have HL := Lib.hid hl
  clear h h1 hn hn2 hl hw
  generalize tellE c n s y = e at *
  generalize ownB c n y = q at *
  go_enter Tryz.func18, Tryz.ntmps18
  go_wp2_with (first
    | ((with_reducible refine wpList_store_row (o := ⟨none, _, _, _, _, _⟩) rfl 65 (.tmp 6) (.tmp 15) rfl (w.heap.size + 1) (Sh.ecells e p cap) ?sx ?sy 65 ?old ?sg ?si ?so ?s1 ?_); (case sx => rfl); (case sy => rfl); (case old => exact Sh.zec); (case sg => exact K0.b); (case si => kernel_rfl); (case so => rfl); (case s1 => kernel_rfl); have K1 := K0.rowB (Sh.ecells e p cap); generalize World.setRow _ (w.heap.size + 1) (Sh.ecells e p cap) = w2 at *; clear K0; have hc2 := Qu.blk_cell K1.b)
    | (go_at_call 48; refine (Sh.clone_any p cap e.s.l _ (by have := HL.out; omega) HN.out).mono ?_; rintro _ w3 ⟨q3, c3, rfl, hown, hb3⟩; have K3 := K1.step hb3; have hf3 := Qu.blk_free K3.b 3; have hc3 := Qu.blk_cell K3.b; have HO := Lib.hid hown; have HS3 := Lib.hid (Qu.lt_of_block K1.b); clear hown hb3 hc2)
    | ((with_reducible refine wpList_load_row (o := ⟨some 23, _, _, _, _, _⟩) rfl 65 (.tmp 6) rfl (w.heap.size + 1) ?lx 65 (Sh.ecells e q3 c3) (0, 0) _ ?lg Tryz.underlying65 ?ld ?li ?_); (case lx => rfl); (case lg => exact (K3.cellB 3 (.slice q3 e.s.l.length c3)).b); (case ld => rfl); (case li => kernel_rfl))
    | ((with_reducible refine wpList_store_row (o := ⟨none, _, _, _, _, _⟩) rfl 65 (.tmp 4) (.tmp 23) rfl w.heap.size (Sh.ecells e q3 c3) ?sx ?sy 65 ?old ?sg ?si ?so ?s1 ?_); (case sx => rfl); (case sy => rfl); (case old => exact Sh.zec); (case sg => exact (K3.cellB 3 (.slice q3 e.s.l.length c3)).a); (case si => kernel_rfl); (case so => rfl); (case s1 => kernel_rfl)))
  have K4 := K3.cellB 3 (.slice q3 e.s.l.length c3)
  obtain ⟨_, _, e1, hin⟩ := Sh.own_in HO.out
  cases e1
  have hfr : ∀ a, q3 = some a → w.heap.size + 2 ≤ a.block := fun a ha => by
    have := (HO.out.lt a.block (by rw [ha]; rfl)).1
    have := HS3.out
    omega
  have hin4 := hin.keep (w' := w3.setCell ⟨w.heap.size + 1, 3, none⟩ (.slice q3 e.s.l.length c3)) (by simp [World.setCell]) fun _ a ha _ => heap_setCell_other _ _ _ _ (by have := hfr a ha; simp only; omega)
  exact ent_ret rfl rfl rfl (setRow_heap _ _ _ _ _ _ K4.a) (hin4.keep (by simp) fun _ a ha _ => setRow_other _ _ _ _ (by have := hfr a ha; omega)) (Qu.below_setRow K4.below (Nat.le_refl _) _) fun _ a ha => by have := hfr a ha; omega

/-! Line. -/
def LineG (w : World) (d : Me.Wd) (q : Bool) (r : Ending) (w' : World) : Prop := r = .returned (.tuple #[.agg (Me.dcells d), .bool q]) ∧ Below w.heap.size w w'
theorem line_ret {w wr : World} {d : Me.Wd} {q : Bool} {a : Act} {g : Nat} (hp : a.tmps.getD 4 undef = .pointer (some ⟨g, 0, none⟩)) (hq : a.tmps.getD 5 undef = .bool q) (hd : a.defers = [])
    (hg : wr.heap[g]? = some (.cells (Me.dcells d) 36 (0, 0))) (hb : Below w.heap.size w wr) : bodyPost Tryz.prog Tryz.f19 (LineG w d q) Exit.ret a wr :=
  bodyPost_ret (v := .tuple #[.agg (Me.dcells d), a.tmps.getD 5 undef]) (Qu.results_cell_two Tryz.results19 _ _ g 36 _ (0, 0) _ hp hg Tryz.underlying36 rfl (by kernel_rfl)) hd ⟨by rw [hq], hb⟩
/-- A line's words, or none. -/
def tellL (c : Cfg) (n : Int) (s : Hs) (y : Int) : Me.Wd := if ownB c n y = true then (Me.lnP c s.L y).1 else Me.d0
set_option maxRecDepth 100000 in
set_option maxHeartbeats 4000000 in
theorem Own.lineF (h : Own w0 K c n s X bx w) (y : Int) (hw : (Lit.int .i64 y).wf = true) :
    Calls Tryz.prog 19 #[ptr K.h, .int .i64 y] w (LineG w (tellL c n s y) (ownB c n y)) := by
  have h1 := h.add (.cells (Me.dcells Me.d0) 36)
  obtain ⟨p, cap, hlk, -, -⟩ := h1.tell y hw
  have hk := h1.hc
  have H3 := Lib.hid (h1.addRow Sh.zec (Sh.ecells (tellE c n s y) p cap) 65)
  rw [show (w.alloc (.cells (Me.dcells Me.d0) 36)).heap.size = w.heap.size + 1 by simp] at H3
  have K0 := H2.box w (.cells (Me.dcells Me.d0) 36) (.cells Sh.zec 65)
  clear h h1 hw
  have HT : Hid (ownB c n y = true ∧ tellL c n s y = (Me.lnP c s.L y).1 ∨ ownB c n y = false ∧ tellL c n s y = Me.d0) := Lib.hid (by
    unfold tellL
    rcases Bool.eq_false_or_eq_true (ownB c n y) with hy | hy <;> simp [hy])
  generalize tellE c n s y = e at *
  generalize tellL c n s y = d at *
  generalize ownB c n y = q at *
  rcases HT.out with ⟨rfl, hd⟩ | ⟨rfl, hd⟩
  · obtain ⟨k, hd2⟩ : ∃ k, Me.lnP c s.L y = (d, k) := ⟨(Me.lnP c s.L y).2, by rw [hd]⟩
    have HLn := Lib.hid (fun w1 bx (h : Own w0 K c n s X bx w1) => h.line y hd2)
    clear hd hd2 HT
    go_enter Tryz.func19, Tryz.ntmps19
    go_wp2_with (first
      | ((with_reducible refine wpList_store_row (o := ⟨none, _, _, _, _, _⟩) rfl 65 (.tmp 6) (.tmp 17) rfl (w.heap.size + 1) (Sh.ecells e p cap) ?sx ?sy 65 ?old ?sg ?si ?so ?s1 ?_); (case sx => rfl); (case sy => rfl); (case old => exact Sh.zec); (case sg => exact K0.b); (case si => kernel_rfl); (case so => rfl); (case s1 => kernel_rfl); have K1 := K0.rowB (Sh.ecells e p cap); generalize World.setRow _ (w.heap.size + 1) (Sh.ecells e p cap) = w2 at *; clear K0 hlk hk; have hk := H3.out.hc)
      | (go_at_call 49; refine (HLn.out _ _ H3.out).mono ?_; rintro _ w3 ⟨rfl, hb3⟩; have K3 := K1.step hb3; clear hk hb3 K1 H3)
      | ((with_reducible refine wpList_store_row (o := ⟨none, _, _, _, _, _⟩) rfl 36 (.tmp 8) (.tmp 29) rfl w3.heap.size (Me.dcells d) ?sx ?sy 36 ?old ?sg ?si ?so ?s1 ?_); (case sx => rfl); (case sy => rfl); (case old => exact Me.dcells Me.d0); (case sg => exact heap_alloc_new w3 _); (case si => kernel_rfl); (case so => rfl); (case s1 => kernel_rfl); have K4 := K3.step (Qu.below_box w3 (.cells (Me.dcells Me.d0) 36) (Me.dcells d)); have hg4 := setRow_heap _ w3.heap.size _ (Me.dcells d) 36 (0, 0) (heap_alloc_new w3 (.cells (Me.dcells Me.d0) 36)); generalize World.setRow _ w3.heap.size (Me.dcells d) = w4 at *; generalize w3.heap.size = g4 at *; clear K3)
      | ((with_reducible refine wpList_load_row (o := ⟨some 31, _, _, _, _, _⟩) rfl 36 (.tmp 8) rfl g4 ?lx 36 (Me.dcells d) (0, 0) _ ?lg Tryz.underlying36 ?ld ?li ?_); (case lx => rfl); (case lg => exact hg4); (case ld => rfl); (case li => kernel_rfl))
      | ((with_reducible refine wpList_store_row (o := ⟨none, _, _, _, _, _⟩) rfl 36 (.tmp 4) (.tmp 31) rfl w.heap.size (Me.dcells d) ?sx ?sy 36 ?old ?sg ?si ?so ?s1 ?_); (case sx => rfl); (case sy => rfl); (case old => exact Me.dcells Me.d0); (case sg => exact K4.a); (case si => kernel_rfl); (case so => rfl); (case s1 => kernel_rfl)))
    exact line_ret rfl rfl rfl (setRow_heap _ _ _ _ _ _ K4.a) (Qu.below_setRow K4.below (Nat.le_refl _) _)
  · subst hd
    clear HT
    go_enter Tryz.func19, Tryz.ntmps19
    go_wp2_with (first
      | ((with_reducible refine wpList_store_row (o := ⟨none, _, _, _, _, _⟩) rfl 65 (.tmp 6) (.tmp 17) rfl (w.heap.size + 1) (Sh.ecells e p cap) ?sx ?sy 65 ?old ?sg ?si ?so ?s1 ?_); (case sx => rfl); (case sy => rfl); (case old => exact Sh.zec); (case sg => exact K0.b); (case si => kernel_rfl); (case so => rfl); (case s1 => kernel_rfl); have K1 := K0.rowB (Sh.ecells e p cap); generalize World.setRow _ (w.heap.size + 1) (Sh.ecells e p cap) = w2 at *; clear K0 hlk hk H3)
      | ((with_reducible refine wpList_store_row (o := ⟨none, _, _, _, _, _⟩) rfl 36 (.tmp 4) (.tmp 21) rfl w.heap.size (Me.dcells Me.d0) ?sx ?sy 36 ?old ?sg ?si ?so ?s1 ?_); (case sx => rfl); (case sy => rfl); (case old => exact Me.dcells Me.d0); (case sg => exact K1.a); (case si => kernel_rfl); (case so => rfl); (case s1 => kernel_rfl)))
    exact line_ret rfl rfl rfl (setRow_heap _ _ _ _ _ _ K1.a) (Qu.below_setRow K1.below (Nat.le_refl _) _)

end Go.Proofs.YtpknfbgnclgpmaaGreatDoor.Ho
