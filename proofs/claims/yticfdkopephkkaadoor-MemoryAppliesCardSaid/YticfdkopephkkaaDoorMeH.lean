/-
  A law's own memory, beside boxes; and two of them side by side.
-/
import Derived.Test.YticfdkopephkkaaDoorMeF
import Derived.Test.YticfdkopephkkaaDoorMeG
namespace Go.Proofs.YticfdkopephkkaaDoor
open Go Go.RowKit

/-- A law's own memory, and boxes. -/
structure Own (w : World) (b g : Nat) (c : Cfg) (L : List Int) (bs : List (Nat × Obj)) (wr : World) : Prop where
  mm : Mm wr b g c L
  bb : w.heap.size ≤ b
  gb : w.heap.size ≤ g
  bx : ∀ p ∈ bs, wr.heap[p.1]? = some p.2 ∧ p.1 ≠ g
  bl : Below w.heap.size w wr
  tb : Tb w
variable {w wr wr' : World} {b g b2 g2 : Nat} {c : Cfg} {L M L2 : List Int} {bs : List (Nat × Obj)}
theorem Own.step (h : Own w b g c L bs wr) (hb : Below wr.heap.size wr wr') : Own w b g c L bs wr' :=
  ⟨h.mm.below hb, h.bb, h.gb, fun p hp => ⟨(hb.block p.1 (lt_of_block (h.bx p hp).1)).trans (h.bx p hp).1, (h.bx p hp).2⟩, bstep h.bl hb, h.tb⟩
theorem Own.tbr (h : Own w b g c L bs wr) : Tb wr := h.tb.keeps h.bl
theorem Own.gave {e : Ending} {r : Value} (h : Own w b g c L bs wr) (hg : GaveM wr b g c r M e wr') : Own w b g c M bs wr' :=
  ⟨hg.mm, h.bb, h.gb, fun p hp => ⟨(hg.turn.other p.1 (lt_of_block (h.bx p hp).1) (h.bx p hp).2).trans (h.bx p hp).1, (h.bx p hp).2⟩, h.bl.trans (hg.turn.below h.gb h.bl.size), h.tb⟩
theorem Own.box (h : Own w b g c L bs wr) {k : Nat} {o : Obj} (hk : wr.heap[k]? = some o) (hn : k ≠ g) : Own w b g c L ((k, o) :: bs) wr :=
  ⟨h.mm, h.bb, h.gb, fun p hp => by
    rcases List.mem_cons.1 hp with rfl | hp
    · exact ⟨hk, hn⟩
    · exact h.bx p hp, h.bl, h.tb⟩
theorem Own.at (h : Own w b g c L bs wr) {k : Nat} {o : Obj} (hk : (k, o) ∈ bs) : wr.heap[k]? = some o := (h.bx _ hk).1
theorem below_box (wr : World) (o : Obj) (cs : Array Value) : Below wr.heap.size wr ((wr.alloc o).setRow wr.heap.size cs) := below_setRow (balloc wr o) (Nat.le_refl _) _
/-- A new box. -/
theorem Own.newbox (h : Own w b g c L bs wr) (cs0 cs : Array Value) (t : TypeId) : Own w b g c L ((wr.heap.size, .cells cs t (0, 0)) :: bs) ((wr.alloc (.cells cs0 t)).setRow wr.heap.size cs) :=
  (h.step (below_box wr _ cs)).box (setRow_heap _ _ _ _ _ _ (heap_alloc_new wr _)) (by have := h.mm.gl; omega)
/-- A box' cells are other ones. -/
theorem Own.stored {k : Nat} {cs0 : Array Value} {t : TypeId} (h : Own w b g c L ((k, .cells cs0 t (0, 0)) :: bs) wr) (cs : Array Value) (hw : w.heap.size ≤ k) (hb : b ≠ k) (hd : ∀ p ∈ bs, p.1 ≠ k) : Own w b g c L ((k, .cells cs t (0, 0)) :: bs) (wr.setRow k cs) := by
  have hk := h.bx _ (List.mem_cons_self ..)
  refine ⟨h.mm.keep (setRow_other wr k b cs hb) (setRow_other wr k g cs (Ne.symm hk.2)), h.bb, h.gb, fun p hp => ?_, below_setRow h.bl hw cs, h.tb⟩
  rcases List.mem_cons.1 hp with rfl | hp
  · exact ⟨setRow_heap _ _ _ _ _ _ hk.1, hk.2⟩
  · exact ⟨(setRow_other wr k p.1 cs (hd p hp)).trans (h.bx p (List.mem_cons_of_mem _ hp)).1, (h.bx p (List.mem_cons_of_mem _ hp)).2⟩

theorem newO (hf : c.fits) (ok : okC c = true) (tb : Tb w) (hb : Below w.heap.size w wr) {L0 : List Int} (e0 : List.replicate (c.wo * c.li).toNat 0 = L0) :
    Calls Tryd.prog 6 #[cv c] wr fun e w' => ∃ b g, e = .returned (.tuple #[.pointer (some ⟨b, 0, none⟩), .int .i64 0]) ∧ Own w b g c L0 [] w' ∧ Below wr.heap.size wr w' ∧ wr.heap.size ≤ b ∧ wr.heap.size ≤ g :=
  (new_yes c wr hf ok).mono fun _ _ ⟨b, g, he, ha, h1, h2, h3⟩ => ⟨b, g, he, e0 ▸ ⟨ha, Nat.le_trans hb.size h1, Nat.le_trans hb.size h2, (fun _ hp => by cases hp), bstep hb h3, tb⟩, h3, h1, h2⟩
theorem Own.op (h : Own w b g c L bs wr) (x : Op) {n q : Int} (e : doP L x = ((n, q), M)) :
    Calls Tryd.prog 7 #[.pointer (some ⟨b, 0, none⟩), ov x] wr fun e w' => e = .returned (.tuple #[.int .i64 n, .int .i64 q]) ∧ Own w b g c M bs w' ∧ TurnG g wr w' := by
  refine (do_any h.mm x).mono fun e' w' hg => ?_
  rw [e] at hg
  exact ⟨hg.res, h.gave hg, hg.turn⟩
theorem Own.write (h : Own w b g c L bs wr) (line : Int) (d : Wd) {n : Int} (e : wrP c L line d = (n, M)) :
    Calls Tryd.prog 8 #[.pointer (some ⟨b, 0, none⟩), .int .i64 line, .agg (dcells d)] wr fun e w' => e = .returned (.int .i64 n) ∧ Own w b g c M bs w' ∧ TurnG g wr w' := by
  refine (write_any h.mm h.tbr line d).mono fun e' w' hg => ?_
  rw [e] at hg
  exact ⟨hg.res, h.gave hg, hg.turn⟩
theorem Own.line (h : Own w b g c L bs wr) (line : Int) {d : Wd} {n : Int} (e : lnP c L line = (d, n)) :
    Calls Tryd.prog 13 #[.pointer (some ⟨b, 0, none⟩), .int .i64 line] wr fun e w' => e = .returned (.tuple #[.agg (dcells d), .int .i64 n]) ∧ Below wr.heap.size wr w' := by
  have := line_any2 h.mm h.tbr line
  rw [e] at this
  exact this
theorem Own.word (h : Own w b g c L bs wr) (a : Int) {n : Int} (e : wrd L a = n) :
    Calls Tryd.prog 9 #[.pointer (some ⟨b, 0, none⟩), .int .i64 a] wr fun e w' => e = .returned (.int .i64 n) ∧ wr = w' := by
  have := word_any h.mm a
  rw [e] at this
  exact this
theorem applyO (d : Wd) (x : Op) (hf : c.fits) (tb : Tb wr) {d' : Wd} {n q : Int} (e : apP c d x = (d', n, q)) :
    Calls Tryd.prog 12 #[cv c, .agg (dcells d), ov x] wr fun e w' => e = .returned (.tuple #[.agg (dcells d'), .int .i64 n, .int .i64 q]) ∧ Below wr.heap.size wr w' := by
  have := apply_any c d x wr hf tb
  rw [e] at this
  exact this

/-- Two memories side by side. -/
structure Two (w : World) (b g b2 g2 : Nat) (c : Cfg) (L L2 : List Int) (bs : List (Nat × Obj)) (wr : World) : Prop where
  l : Own w b g c L bs wr
  r : Own w b2 g2 c L2 bs wr
  n1 : b2 ≠ g
  n2 : b ≠ g2
  n3 : g ≠ g2
theorem Two.step (h : Two w b g b2 g2 c L L2 bs wr) (hb : Below wr.heap.size wr wr') : Two w b g b2 g2 c L L2 bs wr' := ⟨h.l.step hb, h.r.step hb, h.n1, h.n2, h.n3⟩
theorem Two.turnL (h : Two w b g b2 g2 c L L2 bs wr) (ho : Own w b g c M bs wr') (ht : TurnG g wr wr') : Two w b g b2 g2 c M L2 bs wr' :=
  ⟨ho, ⟨h.r.mm.keep (ht.other b2 h.r.mm.bl h.n1) (ht.other g2 h.r.mm.gl (Ne.symm h.n3)), h.r.bb, h.r.gb, fun p hp => ⟨(ho.bx p hp).1, (h.r.bx p hp).2⟩, ho.bl, h.r.tb⟩, h.n1, h.n2, h.n3⟩
theorem Two.turnR (h : Two w b g b2 g2 c L L2 bs wr) (ho : Own w b2 g2 c M bs wr') (ht : TurnG g2 wr wr') : Two w b g b2 g2 c L M bs wr' :=
  ⟨⟨h.l.mm.keep (ht.other b h.l.mm.bl h.n2) (ht.other g h.l.mm.gl h.n3), h.l.bb, h.l.gb, fun p hp => ⟨(ho.bx p hp).1, (h.l.bx p hp).2⟩, ho.bl, h.l.tb⟩, ho, h.n1, h.n2, h.n3⟩
theorem Two.box (h : Two w b g b2 g2 c L L2 bs wr) {k : Nat} {o : Obj} (hk : wr.heap[k]? = some o) (hn : k ≠ g) (hn2 : k ≠ g2) : Two w b g b2 g2 c L L2 ((k, o) :: bs) wr := ⟨h.l.box hk hn, h.r.box hk hn2, h.n1, h.n2, h.n3⟩
theorem Two.newbox (h : Two w b g b2 g2 c L L2 bs wr) (cs0 cs : Array Value) (t : TypeId) : Two w b g b2 g2 c L L2 ((wr.heap.size, .cells cs t (0, 0)) :: bs) ((wr.alloc (.cells cs0 t)).setRow wr.heap.size cs) := ⟨h.l.newbox cs0 cs t, h.r.newbox cs0 cs t, h.n1, h.n2, h.n3⟩
theorem Two.stored {k : Nat} {cs0 : Array Value} {t : TypeId} (h : Two w b g b2 g2 c L L2 ((k, .cells cs0 t (0, 0)) :: bs) wr) (cs : Array Value) (hw : w.heap.size ≤ k) (hb : b ≠ k) (hb2 : b2 ≠ k) (hd : ∀ p ∈ bs, p.1 ≠ k) : Two w b g b2 g2 c L L2 ((k, .cells cs t (0, 0)) :: bs) (wr.setRow k cs) := ⟨h.l.stored cs hw hb hd, h.r.stored cs hw hb2 hd, h.n1, h.n2, h.n3⟩

end Go.Proofs.YticfdkopephkkaaDoor
