/-
  Messages' rows; Clone of messages and of entries; copied, List.
-/
import Derived.Test.YtnpbbkiojoafbaaQuB
namespace Go.Proofs.Ytnpbbkiojoafbaa
open Go Go.RowKit

theorem mg_cells (l : List Msg) : ∀ u ∈ cellsOf mg l, u.oneCell' = true := by
  intro u hu
  obtain ⟨m, _, hm⟩ := List.mem_flatMap.1 hu
  simp [mg] at hm
  rcases hm with rfl | rfl | rfl | rfl | rfl | rfl | rfl | rfl | rfl | rfl | rfl | rfl | rfl | rfl | rfl <;> rfl
theorem A35 : (Try.prog.info? 35).map (fun i => (i.zero, i.size, i.bytes)) = some (some (.agg (mcells z0)), 15, 120) := by kernel_rfl

/-- Where a slice's messages lie. -/
def MIn (w : World) (p : Option Addr) (l : List Msg) : Prop := ∀ i x, l[i]? = some x → ∃ g o, p = some ⟨g, o, none⟩ ∧ g < w.heap.size ∧ w.rangeAt g (o + i * 15) (mg x)
theorem MIn.keep {w w' : World} {p : Option Addr} {l : List Msg} (h : MIn w p l) (hs : w.heap.size ≤ w'.heap.size) (hk : l ≠ [] → ∀ a, p = some a → a.block < w.heap.size → w'.heap[a.block]? = w.heap[a.block]?) : MIn w' p l := fun i x hx => by
  obtain ⟨g, o, e, hg, hr⟩ := h i x hx
  subst e
  exact ⟨g, o, rfl, Nat.lt_of_lt_of_le hg hs, fun j v hv => (World.cell?_of_block (a := ⟨g, o + i * 15 + j, none⟩) (hk (fun e => by rw [e] at hx; cases hx) ⟨g, o, none⟩ rfl hg)).trans (hr j v hv)⟩
theorem MIn.step {w w' : World} {p : Option Addr} {l : List Msg} (h : MIn w p l) (hb : Below w.heap.size w w') : MIn w' p l := h.keep hb.size fun _ _ _ hlt => hb.block _ hlt
theorem MIn.nil (w : World) (p : Option Addr) : MIn w p [] := fun i x hx => by cases hx
theorem MIn.lt {w : World} {p : Option Addr} {l : List Msg} (h : MIn w p l) (hl : l ≠ []) : ∀ a, p = some a → a.block < w.heap.size := fun a ha => by
  obtain ⟨x, hx⟩ : ∃ x, l[0]? = some x := by cases l with | nil => exact absurd rfl hl | cons x l => exact ⟨x, rfl⟩
  obtain ⟨g, o, e, hg, _⟩ := h 0 x hx
  rw [ha] at e; cases e; exact hg
/-- The cells of all of them, one behind the other. -/
theorem MIn.all {w : World} {g o : Nat} {l : List Msg} (h : MIn w (some ⟨g, o, none⟩) l) : ∀ j u, (cellsOf mg l)[j]? = some u → w.cell? ⟨g, o + j, none⟩ = some u := fun j u hj => by
  have hl := (List.getElem?_eq_some_iff.1 hj).1
  rw [cellsOf_len mg_len] at hl
  have hi : j / 15 < l.length := by omega
  obtain ⟨g', o', e, _, hr⟩ := h (j / 15) l[j / 15] (List.getElem?_eq_getElem hi)
  obtain ⟨rfl, rfl⟩ : g = g' ∧ o = o' := by simpa using e
  have e2 : j / 15 * 15 + j % 15 = j := by omega
  have e1 := cellsOf_at mg_len l (j / 15) (j % 15) hi (by omega)
  rw [e2] at e1
  rw [e1] at hj
  have := hr (j % 15) u hj
  rwa [Nat.add_assoc, e2] at this
theorem own_min {w : World} {B e : Nat} {v : Value} {l : List Msg} (h : w.ownsRow B e 15 v l.length (cellsOf mg l)) : ∃ p c, v = .slice p l.length c ∧ MIn w p l ∧ (∀ a, p = some a → B ≤ a.block) ∧ l.length ≤ c := by
  rcases h.2 with ⟨rfl, h0⟩ | ⟨g, cap, cur, rfl, hb, hg, rest⟩
  · have e : l = [] := List.eq_nil_of_length_eq_zero h0
    subst e
    exact ⟨none, 0, rfl, MIn.nil _ _, fun a ha => (by cases ha), Nat.le_refl _⟩
  · refine ⟨_, cap, rfl, fun i x hx => ⟨g, 0, rfl, lt_of_block hg, fun j u hu => ?_⟩, fun a ha => (by cases ha; exact hb), rest.1⟩
    obtain ⟨hi, rfl⟩ := List.getElem?_eq_some_iff.1 hx
    have hj : j < 15 := by
      have := (List.getElem?_eq_some_iff.1 hu).1
      rwa [mg_len] at this
    have := h.cells (g := g) rfl (i * 15 + j) u (by rw [cellsOf_at mg_len l i j hi hj]; exact hu)
    rwa [Addr.add_lit, Nat.zero_add, ← Nat.zero_add (i * 15)] at this

/-- What a call gives that makes a list of messages of its own. -/
def CloneGave (l : List Msg) (w : World) (e : Ending) (w' : World) : Prop := ∃ p c, e = .returned (.slice p l.length c) ∧ MIn w' p l ∧ (∀ a, p = some a → w.heap.size ≤ a.block) ∧ l.length ≤ c ∧ Below w.heap.size w w'
set_option maxHeartbeats 1000000 in
theorem cloneM_any {w : World} {p : Option Addr} {c : Nat} {l : List Msg} (h : MIn w p l) (hl : l.length ≤ 5000) :
    Calls Try.prog 37 #[.slice p l.length c] w (CloneGave l w) := by
  obtain ⟨i0, hi0, hz0, hz1, hz2⟩ := info_parts A35
  have hq := fun (w : World) (a : Option Addr) (n c n' c' : Nat) => Lib.run_eql_slice_nil (P := Try.prog) w 36 35 a n c n' c' Try.underlying36
  rcases p with _ | ad
  · have e : l = [] := by
      cases l with
      | nil => rfl
      | cons x l => obtain ⟨g, o, e, _⟩ := h 0 x rfl; cases e
    subst e
    clear h hl
    go_enter Try.func37, Try.ntmps37
    go_wp2
    go_ret
    exact ⟨none, 0, rfl, MIn.nil _ _, fun a ha => (by cases ha), Nat.le_refl _, Below.refl _ _⟩
  · have hcell : ∀ (o : Obj) j u, (cellsOf mg l)[j]? = some u → (w.alloc o).cell? (ad.add j) = some u := fun o j u hj => by
      have hne : l ≠ [] := fun e => by rw [e] at hj; cases hj
      obtain ⟨x, hx⟩ : ∃ x, l[0]? = some x := by cases l with | nil => exact absurd rfl hne | cons x l => exact ⟨x, rfl⟩
      obtain ⟨g, o', e, _, _⟩ := h 0 x hx
      cases e
      rw [Addr.add_lit]
      exact Lib.cell?_alloc_some o (h.all j u hj)
    have HC := Lib.hid hcell
    have HL := Lib.hid (cellsOf_len mg_len l)
    have H1 : Hid (∀ u ∈ cellsOf mg l, u.oneCell' = true) := Lib.hid (mg_cells l)
    clear h hcell
    go_enter Try.func37, Try.ntmps37
    go_wp2_with (at_builtin; refine wpList_append_own _ rfl (.tmp 5) (.tmp 6) 36 rfl w.heap.size 35 i0 (.agg (mcells z0)) 15 120 Try.underlying36 hi0 hz0 hz1 hz2 rfl (by decide) _ _ _ rfl (World.ownsRow_made w #[] 0 (Nat.le_refl _) (Nat.zero_le _) rfl) ad l.length c (cellsOf mg l) rfl HL.out ?c1 H1.out ?c3 ?c4 ?c5 ?_)
    case c1 => exact HC.out _
    case c3 => simp only [maxLen]; omega
    case c4 => omega
    case c5 => simp
    intro v' w1 hown hgrow hnil
    obtain ⟨p', c', rfl, hin, hfr, hlc⟩ := own_min (l := l) (by simpa using hown)
    have hB : Below w.heap.size w w1 := ((Below.refl _ w).alloc (Nat.le_refl _) _).grown hgrow (by simp) (by intro k hk; simp [Value.ownBlock] at hk; omega)
    clear hown hgrow hnil
    go_wp2
    go_ret
    exact ⟨p', c', rfl, hin, hfr, hlc, hB⟩

/-! copied. -/
/-- The call's own first two blocks, and that nothing of before has changed. -/
structure H2 (w : World) (A B : Array Value) (T T' : TypeId) (wr : World) : Prop where
  a : wr.heap[w.heap.size]? = some (.cells A T (0, 0))
  b : wr.heap[w.heap.size + 1]? = some (.cells B T' (0, 0))
  below : Below w.heap.size w wr
theorem H2.box (w : World) (A B : Array Value) (T T' : TypeId) : H2 w A B T T' ((w.alloc (.cells A T)).alloc (.cells B T')) :=
  ⟨new_at1 w _ _, new_at2 w _ _, ((Below.refl _ _).alloc (Nat.le_refl _) _).alloc (by simp) _⟩
theorem H2.step {w wr wr' : World} {A B : Array Value} {T T' : TypeId} (h : H2 w A B T T' wr) (hb : Below wr.heap.size wr wr') : H2 w A B T T' wr' :=
  ⟨(hb.block _ (lt_of_block h.a)).trans h.a, (hb.block _ (lt_of_block h.b)).trans h.b, bstep h.below hb⟩
theorem H2.setA {w wr : World} {A B : Array Value} {T T' : TypeId} (h : H2 w A B T T' wr) (i : Nat) (u : Value) : H2 w (A.setIfInBounds i u) B T T' (wr.setCell ⟨w.heap.size, i, none⟩ u) :=
  ⟨heap_setCell_same wr _ i _ _ u h.a, (heap_setCell_other _ _ _ _ (by simp)).trans h.b, h.below.setCell (by simp) u⟩
theorem H2.cellsA {w wr : World} {A B : Array Value} {T T' : TypeId} (h : H2 w A B T T' wr) : ∀ o, wr.cell? ⟨w.heap.size, o, none⟩ = A[o]? := fun o => blk_cell h.a o
/-- What a call gives that tells an entry whose messages are its own. -/
def CopyGave (x : Ep) (w : World) (e : Ending) (w' : World) : Prop := ∃ y : Ep, e = .returned (.agg (ecells y)) ∧ y.pl = x.pl ∧ MIn w' y.p y.l ∧ (∀ a, y.p = some a → w.heap.size ≤ a.block) ∧ Below w.heap.size w w'
abbrev zec : Array Value := #[.int .i64 0, .int .i64 0, .int .i64 0, .int .i64 0, .int .i64 0, .int .i64 0, .int .i64 0, .int .i64 0, .int .i64 0, .int .i64 0, .int .i64 0, .int .i64 0, .int .i64 0, .int .i64 0, .int .i64 0, .bool false, .slice none 0 0]
set_option maxHeartbeats 2000000 in
theorem copied_any (x : Ep) (w : World) (hl : x.l.length ≤ 5000) (h : MIn w x.p x.l) :
    Calls Try.prog 32 #[.agg (ecells x)] w (CopyGave x w) := by
  have K := H2.box w (ecells x) zec 57 57
  have H := Lib.hid h
  clear h
  have HZ : Hid (((w.alloc (.cells (ecells x) 57)).alloc (.cells zec 57)).heap.size = w.heap.size + 2) := Lib.hid (by simp)
  go_enter Try.func32, Try.ntmps32
  go_wp2_with (fail)
  refine (cloneM_any (H.out.step K.below) hl).mono ?_
  rintro _ w1 ⟨q, c', rfl, hin, hfr, -, hb1⟩
  rw [HZ.out] at hfr
  have K2 := K.step hb1
  have hc2 := K2.cellsA
  have hf2 := blk_free K2.a 16
  obtain ⟨y, hy⟩ : ∃ y : Ep, y = ⟨x.m, x.st, x.l, q, c'⟩ := ⟨_, rfl⟩
  have K3 : H2 w (ecells y) zec 57 57 (w1.setCell ⟨w.heap.size, 16, none⟩ (.slice q x.l.length c')) := by
    have := K2.setA 16 (.slice q x.l.length c')
    rw [hy]
    exact this
  have HN : Hid (MIn (w1.setCell ⟨w.heap.size, 16, none⟩ (.slice q x.l.length c')) y.p y.l) := Lib.hid (by
    rw [hy]
    exact hin.keep (by simp [World.setCell]) fun _ a ha _ => heap_setCell_other _ _ _ _ (by have := hfr a ha; simp only; omega))
  have HF : Hid (∀ a, y.p = some a → w.heap.size + 2 ≤ a.block) := Lib.hid (by rw [hy]; exact hfr)
  have HY : Hid (y.pl = x.pl) := Lib.hid (by rw [hy]; rfl)
  clear K hb1 hin hfr hy
  go_wp2_with (first
    | ((with_reducible refine wpList_load_row (o := ⟨some 7, _, _, _, _, _⟩) rfl 57 (.tmp 1) rfl w.heap.size ?lx 57 (ecells y) (0, 0) _ ?lg Try.underlying57 ?ld ?li ?_); (case lx => rfl); (case lg => exact K3.a); (case ld => rfl); (case li => kernel_rfl))
    | ((with_reducible refine wpList_store_row (o := ⟨none, _, _, _, _, _⟩) rfl 57 (.tmp 2) (.tmp 7) rfl (w.heap.size + 1) (ecells y) ?sx ?sy 57 zec ?sg ?si ?so ?s1 ?_); (case sx => rfl); (case sy => rfl); (case sg => exact K3.b); (case si => kernel_rfl); (case so => rfl); (case s1 => kernel_rfl)))
  exact bodyPost_ret (v := .agg (ecells y)) (results_cell_row Try.results32 _ _ (w.heap.size + 1) 57 _ (0, 0) _ rfl (setRow_heap _ _ _ _ _ _ K3.b) Try.underlying57 rfl (by kernel_rfl)) rfl
    ⟨y, rfl, HY.out, HN.out.keep (by simp) fun _ a ha _ => setRow_other _ _ _ _ (by have := HF.out a ha; omega), fun a ha => by have := HF.out a ha; omega, below_setRow K3.below (by omega) _⟩

end Go.Proofs.Ytnpbbkiojoafbaa
