/-
  A law's own array beside the document's, and boxes beside both.
-/
import Derived.Test.YtldbepaclddgmaaDoorArW
import Derived.Test.YtldbepaclddgmaaDoorArX
import Derived.Test.YtldbepaclddgmaaDoorArS
import Derived.Test.YtldbepaclddgmaaDoorArN
namespace Go.Proofs.YtldbepaclddgmaaDoor
open Go Go.RowKit Go.Sort

/-- The program's array, the document's, and boxes beside them. -/
structure Two (w : World) (b g b2 g2 : Nat) (c : Cfg) (L M : List Wy) (bx : List (Nat × Array Value × TypeId)) (wr : World) : Prop where
  own : Own w b g c L wr
  ar : Ar wr b2 g2 c M
  gd : Good c M
  n1 : b2 ≠ g
  n2 : b ≠ g2
  n3 : g ≠ g2
  gb : w.heap.size ≤ g2
  box : ∀ q ∈ bx, wr.heap[q.1]? = some (.cells q.2.1 q.2.2 (0, 0)) ∧ q.1 ≠ g ∧ q.1 ≠ g2
variable {w wr wr' : World} {b g b2 g2 : Nat} {c : Cfg} {L M : List Wy} {bx : List (Nat × Array Value × TypeId)}
theorem Two.step (h : Two w b g b2 g2 c L M bx wr) (hb : Below wr.heap.size wr wr') : Two w b g b2 g2 c L M bx wr' :=
  ⟨h.own.step hb, h.ar.below hb, h.gd, h.n1, h.n2, h.n3, h.gb, fun q hq => ⟨(hb.block q.1 (lt_of_block (h.box q hq).1)).trans (h.box q hq).1, (h.box q hq).2⟩⟩
theorem Two.drew (h : Two w b g b2 g2 c L M bx wr) : Two w b g b2 g2 c L M bx wr.drew := h.step (below_drewN (Below.refl _ _) 1)
theorem Two.drewN (h : Two w b g b2 g2 c L M bx wr) (n : Nat) : Two w b g b2 g2 c L M bx (wr.drewN n) := h.step (below_drewN (Below.refl _ _) n)
theorem Two.turn1 {N : List Wy} (h : Two w b g b2 g2 c L M bx wr) (ho : Own w b g c N wr') (ht : TurnG g wr wr') : Two w b g b2 g2 c N M bx wr' :=
  ⟨ho, h.ar.turn ht h.n1 (fun e => h.n3 e.symm), h.gd, h.n1, h.n2, h.n3, h.gb, fun q hq => ⟨(ht.other q.1 (lt_of_block (h.box q hq).1) (h.box q hq).2.1).trans (h.box q hq).1, (h.box q hq).2⟩⟩
theorem Own.keep {N : List Wy} (h : Own w b g c N wr) (ht : TurnG g2 wr wr') (h1 : b ≠ g2) (h2 : g ≠ g2) (h3 : w.heap.size ≤ g2) : Own w b g c N wr' :=
  ⟨h.ar.turn ht h1 h2, h.gd, h.bb, h.gb, h.bl.trans (ht.below h3 h.bl.size), h.tb⟩
theorem Two.turn2 {e : Ending} {r : Int × List Wy} (h : Two w b g b2 g2 c L M bx wr) (hg : GaveA wr b2 g2 c r e wr') (gd : Good c r.2) : Two w b g b2 g2 c L r.2 bx wr' :=
  ⟨h.own.keep hg.turn h.n2 h.n3 h.gb, hg.ar, gd, h.n1, h.n2, h.n3, h.gb, fun q hq => ⟨(hg.turn.other q.1 (lt_of_block (h.box q hq).1) (h.box q hq).2.2).trans (h.box q hq).1, (h.box q hq).2⟩⟩
/-- A box is made: by an alloc, or by an alloc and a store of the whole. -/
theorem Two.add (h : Two w b g b2 g2 c L M bx wr) (cs : Array Value) (t : TypeId) : Two w b g b2 g2 c L M ((wr.heap.size, cs, t) :: bx) (wr.alloc (.cells cs t)) := by
  have hs := h.step (balloc wr (.cells cs t))
  refine ⟨hs.own, hs.ar, hs.gd, h.n1, h.n2, h.n3, h.gb, fun q hq => ?_⟩
  rcases List.mem_cons.1 hq with rfl | hq
  · exact ⟨heap_alloc_new wr _, by have := h.own.ar.gl; omega, by have := h.ar.gl; omega⟩
  · exact hs.box q hq
theorem Two.addRow (h : Two w b g b2 g2 c L M bx wr) (old cs : Array Value) (t : TypeId) : Two w b g b2 g2 c L M ((wr.heap.size, cs, t) :: bx) ((wr.alloc (.cells old t)).setRow wr.heap.size cs) := by
  have hs := h.step (below_box wr (.cells old t) cs)
  refine ⟨hs.own, hs.ar, hs.gd, h.n1, h.n2, h.n3, h.gb, fun q hq => ?_⟩
  rcases List.mem_cons.1 hq with rfl | hq
  · exact ⟨setRow_heap _ _ _ _ _ _ (heap_alloc_new wr _), by have := h.own.ar.gl; omega, by have := h.ar.gl; omega⟩
  · exact hs.box q hq
theorem Two.drop {q : Nat × Array Value × TypeId} (h : Two w b g b2 g2 c L M (q :: bx) wr) : Two w b g b2 g2 c L M bx wr :=
  ⟨h.own, h.ar, h.gd, h.n1, h.n2, h.n3, h.gb, fun q hq => h.box q (List.mem_cons_of_mem _ hq)⟩
theorem Two.cells (h : Two w b g b2 g2 c L M bx wr) {k : Nat} {cs : Array Value} {t : TypeId} (hq : (k, cs, t) ∈ bx) : ∀ o, wr.cell? ⟨k, o, none⟩ = cs[o]? := blk_cells (h.box _ hq).1

/-! What each call does with both. -/
theorem Two.op1 (h : Two w b g b2 g2 c L M bx wr) (x : Ao) {n : Int} {N : List Wy} (e : doP c L x = (n, N)) :
    Calls Tryd.prog 9 #[.pointer (some ⟨b, 0, none⟩), .agg (ocells x)] wr fun e w' => e = .returned (.int .i64 n) ∧ Two w b g b2 g2 c N M bx w' :=
  (h.own.op x e).mono fun _ _ ⟨h1, h2, h3⟩ => ⟨h1, h.turn1 h2 h3⟩
theorem Two.lay2 (h : Two w b g b2 g2 c L M bx wr) (line way : Int) {n : Int} {N : List Wy} (e : layP c M line way = (n, N)) :
    Calls Tryd.prog 10 #[.pointer (some ⟨b2, 0, none⟩), .int .i64 line, .int .i64 way] wr fun e w' => e = .returned (.int .i64 n) ∧ Two w b g b2 g2 c L N bx w' := by
  have gd := (h.gd.layP h.ar.sz line way).1
  refine (refLay_any h.ar h.gd line way).mono fun e' w' hg => ?_
  have ho := h.turn2 hg gd
  rw [e] at ho hg
  exact ⟨hg.res, ho⟩
theorem Two.set2 (h : Two w b g b2 g2 c L M bx wr) (line st : Int) (d : Wd) {n : Int} {N : List Wy} (e : setP c M line st d = (n, N)) :
    Calls Tryd.prog 11 #[.pointer (some ⟨b2, 0, none⟩), .int .i64 line, .int .i64 st, .agg (dcells d)] wr fun e w' => e = .returned (.int .i64 n) ∧ Two w b g b2 g2 c L N bx w' := by
  have gd := (h.gd.setP h.ar.sz line st d).1
  refine (refSet_any h.ar h.gd line st d).mono fun e' w' hg => ?_
  have ho := h.turn2 hg gd
  rw [e] at ho hg
  exact ⟨hg.res, ho⟩
theorem Two.lock2 (h : Two w b g b2 g2 c L M bx wr) (line : Int) (q : Bool) {n : Int} {N : List Wy} (e : lockP c M line q = (n, N)) :
    Calls Tryd.prog 12 #[.pointer (some ⟨b2, 0, none⟩), .int .i64 line, .bool q] wr fun e w' => e = .returned (.int .i64 n) ∧ Two w b g b2 g2 c L N bx w' := by
  have gd := (h.gd.lockP h.ar.sz line q).1
  refine (refLock_any h.ar h.gd line q).mono fun e' w' hg => ?_
  have ho := h.turn2 hg gd
  rw [e] at ho hg
  exact ⟨hg.res, ho⟩
theorem Two.find1 (h : Two w b g b2 g2 c L M bx wr) (line : Int) {x : Wy} {k : Int} {q : Bool} (e : fnd c L line = (x, k, q)) :
    Calls Tryd.prog 13 #[.pointer (some ⟨b, 0, none⟩), .int .i64 line] wr (RetF wr x k q) := h.own.find line e
theorem Two.find2 (h : Two w b g b2 g2 c L M bx wr) (line : Int) {x : Wy} {k : Int} {q : Bool} (e : fnd c M line = (x, k, q)) :
    Calls Tryd.prog 14 #[.pointer (some ⟨b2, 0, none⟩), .int .i64 line] wr (RetF wr x k q) := refFind_any h.ar h.gd line e
theorem Two.free1 (h : Two w b g b2 g2 c L M bx wr) (line : Int) {r : Option Nat} (e : fre c L line = r) :
    Calls Tryd.prog 15 #[.pointer (some ⟨b, 0, none⟩), .int .i64 line] wr fun e w' => e = .returned (.int .i64 (oi r)) ∧ Below wr.heap.size wr w' := aw_free h.own line e
theorem Two.free2 (h : Two w b g b2 g2 c L M bx wr) (line : Int) {r : Option Nat} (e : fre c M line = r) :
    Calls Tryd.prog 16 #[.pointer (some ⟨b2, 0, none⟩), .int .i64 line] wr fun e w' => e = .returned (.int .i64 (oi r)) ∧ Below wr.heap.size wr w' := by
  have := refFree_any h.ar line
  rw [e] at this
  exact this
theorem Two.lines1 (h : Two w b g b2 g2 c L M bx wr) {l : List Int} (e : linesP L = l) :
    Calls Tryd.prog 18 #[.pointer (some ⟨b, 0, none⟩)] wr (GaveL wr l) := aw_linesO h.own e
theorem Two.lines2 (h : Two w b g b2 g2 c L M bx wr) {l : List Int} (e : linesP M = l) :
    Calls Tryd.prog 19 #[.pointer (some ⟨b2, 0, none⟩)] wr (GaveL wr l) := by
  have := refLines_any h.ar
  rw [← h.gd.linesP h.ar.sz, e] at this
  exact this
theorem Two.lines_len (h : Two w b g b2 g2 c L M bx wr) : (linesP M).length ≤ 5000 := by
  have h1 := refL_len M c.li.toNat
  have h2 := (ok_ways h.ar.sz.ok).2.2.2
  rw [h.gd.linesP h.ar.sz]
  omega
/-- Both are made. -/
theorem refNewO (hf : c.fits) (ok : okC c = true) (h : Own w b g c L wr) {M : List Wy} (e0 : List.replicate (c.se.toNat * c.wa.toNat) y0 = M) :
    Calls Tryd.prog 8 #[cv c] wr fun e w' => ∃ b2 g2, e = .returned (.tuple #[.pointer (some ⟨b2, 0, none⟩), .int .i64 0]) ∧ Two w b g b2 g2 c L M [] w' :=
  (refNew_yes c wr hf ok).mono fun _ _ ⟨b2, g2, he, ha, h1, h2, h3⟩ => ⟨b2, g2, he, by
    have hb := h.ar.bl
    have hg := h.ar.gl
    have hs := h.bl.size
    subst e0
    exact ⟨h.step h3, ha, good_new _ _, by omega, by omega, by omega, by omega, fun q hq => (by cases hq)⟩⟩

end Go.Proofs.YtldbepaclddgmaaDoor
