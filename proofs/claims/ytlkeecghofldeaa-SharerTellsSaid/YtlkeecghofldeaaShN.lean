/-
  A set in a box beside a map of those that were added.
-/
import Derived.Test.YtlkeecghofldeaaShH
import Derived.Test.YtlkeecghofldeaaShM
import Derived.Maps.OwnOps
import Derived.Maps.OwnSet
import Derived.Maps.Views
import Derived.Maps.RangeWalk
namespace Go.Proofs.Ytlkeecghofldeaa
open Go Go.RowKit Go.Maps

theorem law3 : Keyed Try.prog 3 := int_keyed Try.underlying3
/-- The step of a range over a map whose keys are ints: of the elements nothing is said. -/
theorem wpList_next_keys {P : Program} {w : World} {ops : Array Oper} {rest : List Oper} {o : Oper} {a : Act} {Q : Exit → Act → World → Prop} (hg : o.guard = none) (it : Operand) (hop : o.op = Op.next it false) (k : TypeId) (K : Keyed P k) (hk : P.underlying k = some (.int .i64)) (R : Value → Option (DataW Unit × List MemPlace))
    (b r n : Nat) (D : DataW Unit) (left : Lit → Bool) (cnt : Nat) (hit : a.eval it = .pointer (some ⟨r, 0, none⟩)) (h : w.ranges P k R b r n D left cnt)
    (hDone : cnt = 0 → (∀ kl, left kl = false) → wpList P ops Q rest (a.put o.dst (.tuple #[.bool false])) w)
    (hMore : ∀ (x : Int) (v : Value) (w' : World) (cnt' : Nat), left (.int .i64 x) = true → w'.ranges P k R b r n D (fun z => left z && !z.sameKey (.int .i64 x)) cnt' → cnt' < cnt →
      w.grownBy w' (some r) → (Instr.entry (.pointer (some ⟨r, 0, none⟩))).run P w' = .ok (.tuple #[.int .i64 x, v]) w' → wpList P ops Q rest (a.put o.dst (.tuple #[.bool true, .int .i64 x, v])) w') :
    wpList P ops Q (o :: rest) a w :=
  wpList_next_ranges w hg it hop k K R (Value.int .i64) (fun v : Value => v) (fun key kl hkey => by obtain ⟨x, rfl, _⟩ := Maps.keyOf_int_inv hk hkey; exact ⟨x, rfl⟩) (fun v _ _ => ⟨v, rfl⟩)
    b r n D left cnt hit h hDone (fun x v kl y w' cnt' hkey hlk _ _ hrg hlt hgr _ hen => by
      obtain ⟨x', ex, rfl, _⟩ := Maps.keyOf_int_inv hk hkey
      cases ex
      exact hMore x v w' cnt' hlk hrg hlt hgr hen)

/-- A map's keys are the numbers below c of which f says yes. -/
structure SetIs (D : DataW Unit) (c : Nat) (f : Int → Bool) : Prop where
  tidy : Tidy D
  has : ∀ y : Int, Maps.has D (.int .i64 y) = (hasB c y && f y)
  size : Maps.size D = (canon c f).length
theorem SetIs.empty (c : Nat) : SetIs (.map []) c (fun _ => false) := ⟨tidy_empty, fun y => by rw [has_eq, Bool.and_false]; rfl, by rw [size_eq, show canon c (fun _ => false) = [] by unfold canon; simp]; rfl⟩
theorem SetIs.put {D : DataW Unit} {c : Nat} {f : Int → Bool} (h : SetIs D c f) {x : Int} (hx : hasB c x = true) : SetIs (D.put (.int .i64 x) (.lit (.bool true))) c (orB f x) := by
  have hk : ∀ z : Int, WideAt.IsKeyLit (.int .i64 z) := fun _ => trivial
  refine ⟨h.tidy.put (hk x) _, fun y => ?_, ?_⟩
  · by_cases hy : y = x
    · subst hy
      rw [has_put_same h.tidy.isMap (hk _), hx]
      simp [orB]
    · rw [has_put_other (by simpa using hy), h.has]
      have : (y == x) = false := by simpa using hy
      simp [orB, this]
  · rw [size_put h.tidy, h.has, hx, Bool.true_and, h.size]
    rcases Bool.eq_false_or_eq_true (f x) with hf | hf
    · rw [if_pos hf, canon_again hf]
    · obtain ⟨h0, h1⟩ := hasB_iff.1 hx
      rw [if_neg (by rw [hf]; simp), canon_more h0 h1 hf]

theorem own_map_block {w w' : World} {mb n : Nat} {D : DataW Unit} (h : w.ownsMap Try.prog 3 (plainElem (H := Unit) Try.prog 4) mb n D) (hb : w'.heap[mb]? = w.heap[mb]?) : w'.ownsMap Try.prog 3 (plainElem (H := Unit) Try.prog 4) mb n D := by
  obtain ⟨es, clock, h1, h2⟩ := h
  exact ⟨es, clock, hb.trans h1, h2⟩
theorem own_map_lt {w : World} {mb n : Nat} {D : DataW Unit} (h : w.ownsMap Try.prog 3 (plainElem (H := Unit) Try.prog 4) mb n D) : mb < w.heap.size := by
  obtain ⟨es, clock, h1, _⟩ := h
  exact (Array.getElem?_eq_some_iff.1 h1).1
theorem below_grown {w w' : World} (hb : Below w.heap.size w w') : w.grownBy w' none := ⟨hb.os, hb.tape, hb.output, hb.size, fun k hk _ => hb.block k hk⟩
theorem grown_below {w w' : World} {B b : Nat} (h : w.grownBy w' (some b)) (hB : B ≤ b) (hB2 : B ≤ w.heap.size) : Below B w w' := ⟨h.os, h.tape, h.output, h.size, fun k hk => h.block k (by omega) (by simp; omega)⟩

/-- The box b has the set s, and the map at block mb the keys of f; both are the call's own. -/
structure HSt (w : World) (b mb : Nat) (s : St) (c : Nat) (f : Int → Bool) (n : Nat) (D : DataW Unit) (wr : World) : Prop where
  box : Box no b s wr
  map : wr.ownsMap Try.prog 3 (plainElem (H := Unit) Try.prog 4) mb n D
  set : SetIs D c f
  bigb : w.heap.size ≤ b
  bigm : w.heap.size ≤ mb
  below : Below w.heap.size w wr
variable {w wr wr' : World} {b mb c n : Nat} {s : St} {f : Int → Bool} {D : DataW Unit}
theorem HSt.ne (h : HSt w b mb s c f n D wr) : mb ≠ b := fun e => by
  subst e
  obtain ⟨_, _, h1, _⟩ := h.box
  obtain ⟨_, _, h2, _⟩ := h.map
  rw [h1] at h2
  cases h2
theorem HSt.step (h : HSt w b mb s c f n D wr) (hb : Below wr.heap.size wr wr') : HSt w b mb s c f n D wr' :=
  ⟨h.box.step hb, own_map_block h.map (hb.block mb (own_map_lt h.map)), h.set, h.bigb, h.bigm, bstep h.below hb⟩
/-- Another set has been stored into the box. -/
theorem HSt.stored (h : HSt w b mb s c f n D wr) {s' : St} {p : Option Addr} {cap : Nat} (hin : NumsIn wr p s'.l) (hf : ∀ a, p = some a → a.block ≠ b) : HSt w b mb s' c f n D (wr.setRow b (sval s' p cap)) := by
  obtain ⟨q, cq, h1, _⟩ := h.box
  exact ⟨⟨p, cap, setRow_heap _ _ _ _ _ _ h1, hin.row b hf _, fun _ _ _ h => h⟩, own_map_block h.map (setRow_other _ _ _ _ h.ne), h.set, h.bigb, h.bigm, below_setRow h.below h.bigb _⟩
theorem NumsIn.past_map {p : Option Addr} {l : List Int} (h : NumsIn wr p l) (hm : wr.ownsMap Try.prog 3 (plainElem (H := Unit) Try.prog 4) mb n D) (hg : wr.grownBy wr' (some mb)) : NumsIn wr' p l := fun j hj => by
  obtain ⟨g, off, e, hb, hc⟩ := h j hj
  obtain ⟨_, _, h1, _⟩ := hm
  have hne : g ≠ mb := fun e => by
    subst e
    simp [World.cell?, h1] at hc
  exact ⟨g, off, e, Nat.lt_of_lt_of_le hb hg.size, hg.cell hc (by simpa using hne)⟩
/-- A key has been stored into the map. -/
theorem HSt.keyed (h : HSt w b mb s c f n D wr) {x : Int} (hx : hasB c x = true) (hm : wr'.ownsMap Try.prog 3 (plainElem (H := Unit) Try.prog 4) mb (n + 1) (D.put (.int .i64 x) (.lit (.bool true)))) (hg : wr.grownBy wr' (some mb)) :
    HSt w b mb s c (orB f x) (n + 1) (D.put (.int .i64 x) (.lit (.bool true))) wr' := by
  have hne := h.ne
  obtain ⟨p, cap, h1, h2, h3⟩ := h.box
  exact ⟨⟨p, cap, (hg.block b (lt_of_block h1) (by simp; omega)).trans h1, h2.past_map h.map hg, h3⟩, hm, h.set.put hx, h.bigb, h.bigm, h.below.trans (grown_below hg h.bigm h.below.size)⟩
/-- While the map is ranged over. -/
structure HRg (w : World) (b mb r : Nat) (s : St) (c : Nat) (f : Int → Bool) (n : Nat) (D : DataW Unit) (cnt : Nat) (left : Lit → Bool) (wr : World) : Prop where
  st : HSt w b mb s c f n D wr
  rg : wr.ranges Try.prog 3 (plainElem (H := Unit) Try.prog 4) mb r n D left cnt
  sub : ∀ y : Int, left (.int .i64 y) = true → (hasB c y && f y) = true
  bigr : w.heap.size ≤ r
  nb : r ≠ b
variable {r cnt cnt' : Nat} {left : Lit → Bool}
theorem HRg.step (h : HRg w b mb r s c f n D cnt left wr) (hb : Below wr.heap.size wr wr') : HRg w b mb r s c f n D cnt left wr' :=
  ⟨h.st.step hb, h.rg.kept (below_grown hb) (by simp) (by simp), h.sub, h.bigr, h.nb⟩
theorem HRg.start (h : HSt w b mb s c f n D wr) (hr : wr'.ranges Try.prog 3 (plainElem (H := Unit) Try.prog 4) mb wr.heap.size n D (Maps.has D) (Maps.size D)) (hg : wr.grownBy wr' none) : HRg w b mb wr.heap.size s c f n D (Maps.size D) (Maps.has D) wr' := by
  have hb : Below wr.heap.size wr wr' := ⟨hg.os, hg.tape, hg.output, hg.size, fun k hk => hg.block k hk (by simp)⟩
  have := h.below.size
  obtain ⟨_, _, h1, _⟩ := h.box
  have := lt_of_block h1
  exact ⟨h.step hb, hr, fun y hy => by rw [← h.set.has]; exact hy, by omega, by omega⟩
theorem HRg.next (h : HRg w b mb r s c f n D cnt left wr) {x : Int} (hr : wr'.ranges Try.prog 3 (plainElem (H := Unit) Try.prog 4) mb r n D (fun z => left z && !z.sameKey (.int .i64 x)) cnt') (hg : wr.grownBy wr' (some r)) : HRg w b mb r s c f n D cnt' (fun z => left z && !z.sameKey (.int .i64 x)) wr' := by
  have hne := h.nb
  have hrm := h.rg.ne
  obtain ⟨p, cap, h1, h2, h3⟩ := h.st.box
  refine ⟨⟨⟨p, cap, (hg.block b (lt_of_block h1) (by simp; omega)).trans h1, fun j hj => ?_, h3⟩, hr.owns, h.st.set, h.st.bigb, h.st.bigm, h.st.below.trans (grown_below hg h.bigr h.st.below.size)⟩, hr, fun y hy => h.sub y ?_, h.bigr, h.nb⟩
  · obtain ⟨g, off, e, hb, hc⟩ := h2 j hj
    have hne : g ≠ r := fun e => by
      subst e
      obtain ⟨_, _, _, _, _, _, _, _, _, hr2, _⟩ := h.rg
      simp [World.cell?, hr2] at hc
    exact ⟨g, off, e, Nat.lt_of_lt_of_le hb hg.size, hg.cell hc (by simpa using hne)⟩
  · simp only [Bool.and_eq_true] at hy
    exact hy.1

end Go.Proofs.Ytlkeecghofldeaa
