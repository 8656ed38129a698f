/-
  The document's Next.
-/
import Derived.Test.YtfnemldjhfcalaaTbR
import Derived.Test.YtfnemldjhfcalaaTbW
import Derived.Test.YtfnemldjhfcalaaTbQ
import Derived.Deep.RegionHeld3
import Derived.Deep.CutRange
import Derived.Deep.DeepCutAuto
namespace Go.Proofs.Ytfnemldjhfcalaa
open Go Go.RowKit Go.Sort

abbrev zw : Array Value := #[.int .i64 0, .int .i64 0, .int .i64 0, .int .i64 0, .int .i64 0, .int .i64 0, .int .i64 0, .int .i64 0]
/-- The four boxes of the document's call. -/
theorem Bx.four (w : World) (A B C D : Array Value) (tA tB tC tD : TypeId) : Bx w [(w.heap.size + 1 + 1 + 1, D, tD), (w.heap.size + 1 + 1, C, tC), (w.heap.size + 1, B, tB), (w.heap.size, A, tA)] ((((w.alloc (.cells A tA)).alloc (.cells B tB)).alloc (.cells C tC)).alloc (.cells D tD)) :=
  ((((Bx.start w).addAt A tA w.heap.size rfl).addAt B tB (w.heap.size + 1) (by simp)).addAt C tC (w.heap.size + 1 + 1) (by simp)).addAt D tD (w.heap.size + 1 + 1 + 1) (by simp)
/-- What the document's Next gives: of the pointers' list, too, whether it is the one that came in, or none, or new. -/
def GaveT2 (w : World) (t : Tn) (err : Int) (p0 : Option Addr) (l0 : List Int) (r : Ending) (w' : World) : Prop :=
  ∃ p cap q qc, r = .returned (.tuple #[.agg (tcells t p cap (.slice q t.sent.length qc)), .int .i64 err]) ∧ NumsIn w' p t.e.s.l ∧ MsIn w' q t.sent ∧ Below w.heap.size w w' ∧ ((p = p0 ∧ t.e.s.l = l0) ∨ t.e.s.l = [] ∨ ∀ a, p = some a → w.heap.size ≤ a.block)
theorem turnR_ret {w wr : World} {t : Tn} {err : Int} {a : Act} {fn : Func} {g : Nat} {p q : Option Addr} {cap qc : Nat} {t1 t2 : Tmp} (hres : fn.results = #[.cell t1 46, .tmp t2]) (hp : a.tmps.getD t1 undef = .pointer (some ⟨g, 0, none⟩)) (hq : a.tmps.getD t2 undef = .int .i64 err) (hd : a.defers = [])
    (hg : wr.heap[g]? = some (.cells (tcells t p cap (.slice q t.sent.length qc)) 46 (0, 0))) (hn : NumsIn wr p t.e.s.l) (hm : MsIn wr q t.sent) (hb : Below w.heap.size w wr) (p0 : Option Addr) (l0 : List Int) (ho : (p = p0 ∧ t.e.s.l = l0) ∨ t.e.s.l = [] ∨ ∀ a, p = some a → w.heap.size ≤ a.block) : bodyPost Try.prog fn (GaveT2 w t err p0 l0) Exit.ret a wr :=
  bodyPost_ret (v := .tuple #[.agg (tcells t p cap (.slice q t.sent.length qc)), a.tmps.getD t2 undef]) (results_cell_two hres _ _ g 46 _ (0, 0) _ hp hg Try.underlying46 rfl (by kernel_rfl)) hd ⟨p, cap, q, qc, by rw [hq], hn, hm, hb, ho⟩

set_option maxRecDepth 100000 in
set_option maxHeartbeats 4000000 in
theorem rnext_bad (e : En) (p : Option Addr) (cap : Nat) (m : Msg) (v : W8) (w : World) (hl : e.s.l.length ≤ 5000) (hn : NumsIn w p e.s.l) (hg : goodQ e m = false) :
    Calls Try.prog 10 #[ev e p cap, mv m, .agg (wcells v)] w (GaveT2 w zT 1 p e.s.l) := by
  have B0 := Bx.four w (ecells e p cap) (mcells m) (wcells v) ztc 37 30 28 46
  have HN := Lib.hid hn
  have hd : e.may = false ∨ (e.may = true ∧ decide (m.kd < 1) = true) ∨ (e.may = true ∧ decide (m.kd < 1) = false ∧ decide (3 < m.kd) = true) ∨ (e.may = true ∧ decide (m.kd < 1) = false ∧ decide (3 < m.kd) = false ∧ decide (m.fr < 0) = true) ∨ (e.may = true ∧ decide (m.kd < 1) = false ∧ decide (3 < m.kd) = false ∧ decide (m.fr < 0) = false ∧ decide (e.s.c ≤ m.fr) = true) := by
    rcases Bool.eq_false_or_eq_true e.may with h | h
    · right
      simp only [goodQ, h, isReq, hasB, Bool.true_and, Bool.and_eq_false_iff, Bool.or_eq_false_iff, beq_eq_false_iff_ne, decide_eq_false_iff_not] at hg
      simp only [h, decide_eq_true_eq, decide_eq_false_iff_not, true_and]
      omega
    · left; exact h
  clear hn hg
  rcases hd with h1 | ⟨h1, h2⟩ | ⟨h1, h2, h3⟩ | ⟨h1, h2, h3, h4⟩ | ⟨h1, h2, h3, h4, h5⟩
  all_goals
    have HM := Lib.hid h1
    clear h1
    go_enter Try.func10, Try.ntmps10
    go_wp2_with (first
      | (go_at_call 14; refine (rmay_is HM.out p cap _ (by omega) (HN.out.step B0.below)).mono ?_; rintro _ w1 ⟨rfl, hb1⟩; have B1 := B0.step hb1; have hcE := B1.cells (.tail _ (.tail _ (.tail _ (.head _)))); have hcM := B1.cells (.tail _ (.tail _ (.head _))); clear hb1)
      | ((with_reducible refine wpList_store_row (o := ⟨none, _, _, _, _, _⟩) rfl 46 (.tmp 6) (.tmp 44) rfl (w.heap.size + 1 + 1 + 1) ztc ?sx ?sy 46 ztc ?sg ?si ?so ?s1 ?_); (case sx => rfl); (case sy => rfl); (case sg => exact B1.box _ (.head _)); (case si => kernel_rfl); (case so => rfl); (case s1 => kernel_rfl)))
    exact turnR_ret (t := zT) (p := none) (cap := 0) (q := none) (qc := 0) Try.results10 rfl rfl rfl (setRow_heap _ _ _ _ _ _ (B1.box _ (.head _))) (NumsIn.nil _ _) (MsIn.nil _ _) (below_setRow B1.below (by omega) _) _ _ (.inr (.inl rfl))

theorem Bx.six {w wr : World} {e : En} {p pa : Option Addr} {cap ca gz ga : Nat} {m : Msg} {v : W8} {s' : St} (B : Bx w [(ga, sval s' pa ca, 35), (gz + 1, sv e.s.c e.s.m none 0 0 false, 35), (gz, zw, 28), (w.heap.size + 1 + 1 + 1, ztc, 46), (w.heap.size + 1 + 1, wcells v, 28), (w.heap.size + 1, mcells m, 30), (w.heap.size, ecells e p cap, 37)] wr) : (∀ o, wr.cell? ⟨w.heap.size, o, none⟩ = (ecells e p cap)[o]?) ∧ (∀ o, wr.cell? ⟨w.heap.size + 1, o, none⟩ = (mcells m)[o]?) ∧ (∀ o, wr.cell? ⟨w.heap.size + 1 + 1, o, none⟩ = (wcells v)[o]?) ∧ (∀ o, wr.cell? ⟨gz, o, none⟩ = zw[o]?) ∧ (∀ o, wr.cell? ⟨gz + 1, o, none⟩ = (sv e.s.c e.s.m none 0 0 false)[o]?) ∧ (∀ o, wr.cell? ⟨ga, o, none⟩ = (sval s' pa ca)[o]?) := ⟨B.cells (.tail _ (.tail _ (.tail _ (.tail _ (.tail _ (.tail _ (.head _))))))), B.cells (.tail _ (.tail _ (.tail _ (.tail _ (.tail _ (.head _)))))), B.cells (.tail _ (.tail _ (.tail _ (.tail _ (.head _))))), B.cells (.tail _ (.tail _ (.head _))), B.cells (.tail _ (.head _)), B.cells (.head _)⟩
theorem six_row {w wr : World} {e : En} {p pa : Option Addr} {cap ca gz ga : Nat} {m : Msg} {v : W8} {s' : St} (h : (∀ o, wr.cell? ⟨w.heap.size, o, none⟩ = (ecells e p cap)[o]?) ∧ (∀ o, wr.cell? ⟨w.heap.size + 1, o, none⟩ = (mcells m)[o]?) ∧ (∀ o, wr.cell? ⟨w.heap.size + 1 + 1, o, none⟩ = (wcells v)[o]?) ∧ (∀ o, wr.cell? ⟨gz, o, none⟩ = zw[o]?) ∧ (∀ o, wr.cell? ⟨gz + 1, o, none⟩ = (sv e.s.c e.s.m none 0 0 false)[o]?) ∧ (∀ o, wr.cell? ⟨ga, o, none⟩ = (sval s' pa ca)[o]?)) (hz : w.heap.size + 1 + 1 + 1 < gz) (ha : w.heap.size + 1 + 1 + 1 < ga) (cs : Array Value) : (∀ o, (wr.setRow (w.heap.size + 1 + 1 + 1) cs).cell? ⟨w.heap.size, o, none⟩ = (ecells e p cap)[o]?) ∧ (∀ o, (wr.setRow (w.heap.size + 1 + 1 + 1) cs).cell? ⟨w.heap.size + 1, o, none⟩ = (mcells m)[o]?) ∧ (∀ o, (wr.setRow (w.heap.size + 1 + 1 + 1) cs).cell? ⟨w.heap.size + 1 + 1, o, none⟩ = (wcells v)[o]?) ∧ (∀ o, (wr.setRow (w.heap.size + 1 + 1 + 1) cs).cell? ⟨gz, o, none⟩ = zw[o]?) ∧ (∀ o, (wr.setRow (w.heap.size + 1 + 1 + 1) cs).cell? ⟨gz + 1, o, none⟩ = (sv e.s.c e.s.m none 0 0 false)[o]?) ∧ (∀ o, (wr.setRow (w.heap.size + 1 + 1 + 1) cs).cell? ⟨ga, o, none⟩ = (sval s' pa ca)[o]?) := by
  obtain ⟨h1, h2, h3, h4, h5, h6⟩ := h
  have key : ∀ k, k ≠ w.heap.size + 1 + 1 + 1 → ∀ o, (wr.setRow (w.heap.size + 1 + 1 + 1) cs).cell? ⟨k, o, none⟩ = wr.cell? ⟨k, o, none⟩ := fun k hk o => World.cell?_of_block (a := ⟨k, o, none⟩) (setRow_other wr _ k cs hk)
  exact ⟨fun o => (key _ (by omega) o).trans (h1 o), fun o => (key _ (by omega) o).trans (h2 o), fun o => (key _ (by omega) o).trans (h3 o), fun o => (key _ (by omega) o).trans (h4 o), fun o => (key _ (by omega) o).trans (h5 o), fun o => (key _ (by omega) o).trans (h6 o)⟩

theorem radd_is {s s' : St} {x e : Int} (h : addS s x = (s', e)) (p : Option Addr) (cap : Nat) (w : World) (hi : NumsIn w p s.l) (hl : s.l.length ≤ 5000) :
    Calls Try.prog 23 #[.agg (sval s p cap), .int .i64 x] w (GaveR2 w s' e p s.l) := by
  have := refAdd_apart s p cap x w hi hl
  rw [h] at this
  exact this

theorem apart_row {w wc : World} {p pa : Option Addr} {l l' : List Int} {r : Nat} (hn : NumsIn w p l) (ho : (pa = p ∧ l' = l) ∨ l' = [] ∨ ∀ a, pa = some a → wc.heap.size ≤ a.block) (hr : w.heap.size ≤ r) (hr2 : r < wc.heap.size) : l' ≠ [] → ∀ a, pa = some a → a.block ≠ r := fun hl a ha => by
  rcases ho with ⟨rfl, rfl⟩ | h | h
  · obtain ⟨g, off, e, hg, -⟩ := hn 0 (by cases l' with | nil => exact absurd rfl hl | cons => simp)
    rw [ha] at e
    cases e
    simp only
    omega
  · exact absurd h hl
  · have := h a ha
    omega
theorem old_or {p pa : Option Addr} {l l' : List Int} {A B : Nat} (ho : (pa = p ∧ l' = l) ∨ l' = [] ∨ ∀ a, pa = some a → A ≤ a.block) (hr : B ≤ A) : (pa = p ∧ l' = l) ∨ l' = [] ∨ ∀ a, pa = some a → B ≤ a.block :=
  ho.imp id (Or.imp id fun h a ha => Nat.le_trans hr (h a ha))
theorem NumsIn.rowN {w : World} {p : Option Addr} {l : List Int} (h : NumsIn w p l) (r : Nat) (hf : l ≠ [] → ∀ a, p = some a → a.block ≠ r) (cs : Array Value) : NumsIn (w.setRow r cs) p l :=
  h.keep (by simp) fun hl a ha _ => setRow_other w r _ cs (hf hl a ha)
theorem rtargets_is {s : St} (hm : s.may = true) (p : Option Addr) (cap : Nat) (pb : Option Addr) (cb : Nat) (but : List Int) (w : World) (h : NumsIn w p s.l) (h2 : NumsIn w pb but) (hl : s.l.length ≤ 5000) (hl2 : but.length ≤ 5000) :
    Calls Try.prog 25 #[.agg (sval s p cap), .slice pb but.length cb] w (GaveL w (targetsS s but)) := by
  obtain ⟨hc, hc64, -⟩ := may_bounds hm
  have e : targetsS s but = pickS s.l s.al but s.c.toNat := by unfold targetsS; rw [if_pos hm]
  rw [e]
  obtain ⟨c, m, l, al⟩ := s
  obtain ⟨cn, rfl⟩ : ∃ cn : Nat, c = cn := ⟨c.toNat, by simp only at hc; omega⟩
  exact refTargets_any cn m p cap l al pb cb but w h h2 hl hl2 (by simp only at hc64; omega)

theorem MsIn.rowOf {w : World} {g : Nat} {L : List Msg} (h : MsIn w (some ⟨g, 0, none⟩) L) (r : Nat) (hr : g ≠ r) (cs : Array Value) : MsIn (w.setRow r cs) (some ⟨g, 0, none⟩) L := fun i x hx => by
  obtain ⟨k, e, hk, hv⟩ := h i x hx
  cases e
  exact ⟨g, rfl, by simpa using hk, fun j u hu => (World.cell?_of_block (a := ⟨g, i * 15 + j, none⟩) (setRow_other w r g cs hr)).trans (hv j u hu)⟩
theorem not_bad {e : En} {m : Msg} (hg : goodQ e m = true) : ¬ goodQ e m = false := by rw [hg]; simp

theorem Bx.fresh {w wr : World} {G : List (Nat × Array Value × TypeId)} (h : Bx w G wr) : (∀ z ∈ G, z.1 ≠ wr.heap.size) ∧ w.heap.size ≤ wr.heap.size :=
  ⟨fun z hz e => by have := lt_of_block (h.box z hz); omega, h.below.size⟩
theorem Bx.away {w wr : World} {G : List (Nat × Array Value × TypeId)} (h : Bx w G wr) {g : Nat} (hg : ∀ p ∈ G, p.1 ≠ g) (hw : w.heap.size ≤ g) (cs : Array Value) : Bx w G (wr.setRow g cs) :=
  ⟨fun p hp => (setRow_other wr g p.1 cs (hg p hp)).trans (h.box p hp), below_setRow h.below hw cs⟩

theorem MsIn.set1 {w : World} {g : Nat} {L : List Msg} (h : MsIn w (some ⟨g, 0, none⟩) L) {i r : Nat} {u : Value} (hr : g ≠ r) : MsIn (w.setCell ⟨r, i, none⟩ u) (some ⟨g, 0, none⟩) L := fun k x hx => by
  obtain ⟨q, e, hk, hv⟩ := h k x hx
  cases e
  exact ⟨g, rfl, by simpa [World.setCell] using hk, fun j y hy => (World.cell?_of_block (a := ⟨g, k * 15 + j, none⟩) (heap_setCell_other _ _ _ _ hr)).trans (hv j y hy)⟩
/-- Messages do not lie where a turn that is new does: their first cells are numbers, and so many. -/
theorem MsIn.apart {w : World} {g r : Nat} {x : Msg} {t : TypeId} (h : MsIn w (some ⟨g, 0, none⟩) [x]) (hr : w.heap[r]? = some (.cells ztc t (0, 0))) : g ≠ r := by
  rintro rfl
  obtain ⟨k, e, -, hv⟩ := h 0 x rfl
  cases e
  have h3 := hv 3 _ rfl
  rw [blk_cell hr] at h3
  simp at h3

/-! A turn of the document's that grows: its block, the last one, and the row of what it sends. -/
abbrev trc (fr c m : Int) (v : Value) : Array Value := #[.int .i64 fr, .int .i64 c, .int .i64 m, .slice none 0 0, .bool false, v, .bool false]
structure Tr (w : World) (gt : Nat) (fr c m : Int) (L : List Msg) (v : Value) : Prop where
  blk : w.heap[gt]? = some (.cells (trc fr c m v) 46 (0, 0))
  row : w.ownsRow (gt + 1) 30 15 v L.length (tcs L)
theorem Tr.step {w w' : World} {gt : Nat} {fr c m : Int} {L : List Msg} {v : Value} (h : Tr w gt fr c m L v) (hb : Below w.heap.size w w') : Tr w' gt fr c m L v :=
  ⟨(hb.block _ (lt_of_block h.blk)).trans h.blk, own_kept h.row fun k hk => hb.block k (h.row.lt k hk).2⟩
theorem Tr.kept {w w2 : World} {gt : Nat} {fr c m : Int} {L : List Msg} {v : Value} (h : Tr w gt fr c m L v) (hg : w.grownBy w2 v.ownBlock) : w2.heap[gt]? = some (.cells (trc fr c m v) 46 (0, 0)) ∧ Below gt w w2 :=
  ⟨(hg.block gt (lt_of_block h.blk) (fun e => by have := (h.row.lt gt e.symm).1; omega)).trans h.blk, (Below.refl _ _).grown hg (Nat.le_of_lt (lt_of_block h.blk)) (fun k hk => by have := (h.row.lt k hk).1; omega)⟩
theorem Tr.sent {w w2 : World} {gt g cap : Nat} {fr c m : Int} {L : List Msg} {v : Value} (h : Tr w gt fr c m L v) (x : Msg) (hown : w2.ownsRow (gt + 1) 30 15 (.slice (some ⟨g, 0, none⟩) (L.length + 1) cap) (L.length + 1) (tcs L ++ (mcells x).toList)) (hg : w.grownBy w2 v.ownBlock) :
    Tr (w2.setCell ⟨gt, 5, none⟩ (.slice (some ⟨g, 0, none⟩) (L.length + 1) cap)) gt fr c m (L ++ [x]) (.slice (some ⟨g, 0, none⟩) (L.length + 1) cap) ∧ Below gt w (w2.setCell ⟨gt, 5, none⟩ (.slice (some ⟨g, 0, none⟩) (L.length + 1) cap)) := by
  obtain ⟨hb, hB⟩ := h.kept hg
  have hgl := (hown.lt g rfl).1
  refine ⟨⟨?_, ?_⟩, hB.setCell (by simp) _⟩
  · rw [heap_setCell_same w2 gt 5 _ _ _ hb]
    rfl
  · have := own_kept (w' := w2.setCell ⟨gt, 5, none⟩ (.slice (some ⟨g, 0, none⟩) (L.length + 1) cap)) hown fun k hk => by
      simp only [Value.ownBlock, Option.some.injEq] at hk
      exact heap_setCell_other _ _ _ _ (by simp only; omega)
    simp only [List.length_append, List.length_singleton, tcs_append, tcs_one]
    exact this
theorem rtargets_L {s : St} {but L : List Int} (hL : L = targetsS s but) (hm : s.may = true) (p : Option Addr) (cap : Nat) (pb : Option Addr) (cb : Nat) (w : World) (h : NumsIn w p s.l) (h2 : NumsIn w pb but) (hl : s.l.length ≤ 5000) (hl2 : but.length ≤ 5000) :
    Calls Try.prog 25 #[.agg (sval s p cap), .slice pb but.length cb] w (GaveL w L) := by
  subst hL
  exact rtargets_is hm p cap pb cb but w h h2 hl hl2
theorem row_cells (m : Msg) (kd to_ wh ac ow : Int) (v : W8) : ∀ u ∈ (rcells m kd to_ wh ac ow v).toList, u.oneCell' = true := by
  intro u hu
  simp at hu
  rcases hu with rfl | rfl | rfl | rfl | rfl | rfl | rfl | rfl | rfl | rfl | rfl | rfl | rfl | rfl | rfl <;> rfl

end Go.Proofs.Ytfnemldjhfcalaa
