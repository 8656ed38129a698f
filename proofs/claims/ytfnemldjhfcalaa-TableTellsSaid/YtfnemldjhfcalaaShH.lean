/-
  A set in a box; contracts with the answer named.
-/
import Derived.Test.YtfnemldjhfcalaaShG
namespace Go.Proofs.Ytfnemldjhfcalaa
open Go Go.RowKit Go.Sort

/-- A set in a block of the caller's own; the row of its pointers is none of some blocks. -/
def Box (G : Nat → Prop) (g : Nat) (s : St) (wr : World) : Prop := ∃ p cap, wr.heap[g]? = some (.cells (sval s p cap) 24 (0, 0)) ∧ NumsIn wr p s.l ∧ (s.l ≠ [] → ∀ a, p = some a → ¬ G a.block)
theorem Box.step {G : Nat → Prop} {g : Nat} {s : St} {wr wr' : World} (h : Box G g s wr) (hb : Below wr.heap.size wr wr') : Box G g s wr' := by
  obtain ⟨p, cap, h1, h2, h3⟩ := h
  exact ⟨p, cap, (hb.block g (lt_of_block h1)).trans h1, h2.step hb, h3⟩
theorem Box.new {G : Nat → Prop} {w w1 : World} {s : St} {p : Option Addr} {cap : Nat} (hin : NumsIn w1 p s.l) (hf : ∀ a, p = some a → w.heap.size ≤ a.block) (hG : ∀ k, G k → k < w.heap.size) : Box G w1.heap.size s (w1.alloc (.cells (sval s p cap) 24)) :=
  ⟨p, cap, heap_alloc_new w1 _, hin.step (balloc w1 _), fun _ a ha hg => by have := hf a ha; have := hG _ hg; omega⟩
abbrev no : Nat → Prop := fun _ => False

theorem Box.cells {G : Nat → Prop} {g : Nat} {s : St} {wr : World} (h : Box G g s wr) : ∃ p cap, (∀ o, wr.cell? ⟨g, o, none⟩ = (sval s p cap)[o]?) ∧ NumsIn wr p s.l ∧ g < wr.heap.size := by
  obtain ⟨p, cap, h1, h2, _⟩ := h
  exact ⟨p, cap, fun o => blk_cell h1 o, h2, lt_of_block h1⟩
theorem new_is {c m : Int} {s : St} {e : Int} (h : newS c m = (s, e)) (w : World) : Calls Try.prog 17 #[.int .i64 c, .int .i64 m] w (GaveS w s e) := by
  have := new_any c m w
  rw [h] at this
  exact this
theorem add_is {s s' : St} {x e : Int} (h : addS s x = (s', e)) (p : Option Addr) (cap : Nat) (w : World) (hi : NumsIn w p s.l) (hl : s.l.length ≤ 5000) :
    Calls Try.prog 47 #[.agg (sval s p cap), .int .i64 x] w (GaveS w s' e) := by
  have := add_any s p cap x w hi hl
  rw [h] at this
  exact this
theorem may_is {s : St} {b : Bool} (h : s.may = b) (p : Option Addr) (cap : Nat) (w : World) (hi : NumsIn w p s.l) (hl : s.l.length ≤ 5000) :
    Calls Try.prog 27 #[.agg (sval s p cap)] w fun e w' => e = .returned (.bool b) ∧ Below w.heap.size w w' := by
  subst h
  exact may_any s.c s.m p cap s.l s.al w hl hi
theorem has_is {s : St} {x : Int} {b : Bool} (h : hasAll s.c s.m s.l s.al x = b) (p : Option Addr) (cap : Nat) (w : World) (hi : NumsIn w p s.l) (hl : s.l.length ≤ 5000) :
    Calls Try.prog 16 #[.agg (sval s p cap), .int .i64 x] w fun e w' => e = .returned (.bool b) ∧ Below w.heap.size w w' := by
  subst h
  exact has_any s.c s.m p cap s.l s.al x w hl hi
theorem targets_is {s : St} {but l : List Int} (h : targetsS s but = l) (p : Option Addr) (cap : Nat) (pb : Option Addr) (cb : Nat) (w : World) (hi : NumsIn w p s.l) (hb : NumsIn w pb but) (hl : s.l.length ≤ 5000) (hl2 : but.length ≤ 5000) :
    Calls Try.prog 51 #[.agg (sval s p cap), .slice pb but.length cb] w (GaveL w l) := by
  subst h
  exact targets_any s p cap pb cb but w hi hb hl hl2
theorem clear_is {s s' : St} (h : (newS s.c s.m).1 = s') (p : Option Addr) (n cap : Nat) (w : World) :
    Calls Try.prog 49 #[.agg (sv s.c s.m p n cap s.al)] w (Gave1 w s') := by
  subst h
  exact clear_any s p n cap w
theorem NumsIn.lit {w : World} {x y : Int} : NumsIn (w.alloc (.cells #[.int .i64 x, .int .i64 y] 3)) (some ⟨w.heap.size, 0, none⟩) [x, y] := NumsIn.of_cells (by simp) fun j hj => by
  have hc := World.cell?_alloc_mark w #[.int .i64 x, .int .i64 y] 3 (0, 0) j
  rcases (show j = 0 ∨ j = 1 by simp at hj; omega) with rfl | rfl <;> exact hc

/-- The two boxes that the last test reads. -/
structure Aw (w : World) (g g' : Nat) (s s' : St) (p : Option Addr) (c : Nat) (p' : Option Addr) (c' : Nat) (wr : World) : Prop where
  c1 : ∀ o, wr.cell? ⟨g, o, none⟩ = (sval s p c)[o]?
  c2 : ∀ o, wr.cell? ⟨g', o, none⟩ = (sval s' p' c')[o]?
  n1 : NumsIn wr p s.l
  n2 : NumsIn wr p' s'.l
  lt1 : g < wr.heap.size
  lt2 : g' < wr.heap.size
  below : Below w.heap.size w wr
theorem Aw.step {w wr w' : World} {g g' : Nat} {s s' : St} {p : Option Addr} {c : Nat} {p' : Option Addr} {c' : Nat} (h : Aw w g g' s s' p c p' c' wr) (hb : Below wr.heap.size wr w') : Aw w g g' s s' p c p' c' w' :=
  ⟨fun o => (hb.cell (p := ⟨g, o, none⟩) h.lt1).trans (h.c1 o), fun o => (hb.cell (p := ⟨g', o, none⟩) h.lt2).trans (h.c2 o), h.n1.step hb, h.n2.step hb, Nat.lt_of_lt_of_le h.lt1 hb.size, Nat.lt_of_lt_of_le h.lt2 hb.size, bstep h.below hb⟩

end Go.Proofs.Ytfnemldjhfcalaa
