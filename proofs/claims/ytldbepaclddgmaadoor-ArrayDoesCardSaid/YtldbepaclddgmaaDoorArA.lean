/-
  An array in memory: its block and the block of its ways; what a call on one may change; and the smallest functions, one contract each: taken, isState, the closure of placeOf, IndexFunc, placeOf.
-/
import Derived.Test.YtldbepaclddgmaaDoorArM
import Derived.Deep.MidRow
import Derived.Deep.QuietTactic
import Derived.BigQuiet
namespace Go.Proofs.YtldbepaclddgmaaDoor
open Go Go.RowKit

theorem below_setRow {B : Nat} {w w' : World} (h : Below B w w') {g : Nat} (hg : B ≤ g) (cs : Array Value) : Below B w (w'.setRow g cs) :=
  h.trans ⟨rfl, rfl, rfl, by simp, fun k hk => setRow_other w' g k cs (by omega)⟩

/-- Things as cells. -/
def cellsOf {α : Type} (f : α → List Value) (l : List α) : List Value := l.flatMap f
theorem cellsOf_len {α : Type} {f : α → List Value} {sz : Nat} (hf : ∀ x, (f x).length = sz) (l : List α) : (cellsOf f l).length = l.length * sz := by
  induction l with
  | nil => simp [cellsOf]
  | cons x l ih =>
    have e : cellsOf f (x :: l) = f x ++ cellsOf f l := rfl
    rw [e, List.length_append, ih, hf, List.length_cons, Nat.add_mul, Nat.one_mul, Nat.add_comm]
theorem cellsOf_append {α : Type} (f : α → List Value) (l m : List α) : cellsOf f (l ++ m) = cellsOf f l ++ cellsOf f m := by simp [cellsOf]
theorem cellsOf_take {α : Type} {f : α → List Value} {sz : Nat} (hf : ∀ x, (f x).length = sz) (l : List α) (i : Nat) (h : i ≤ l.length) : (cellsOf f l).take (i * sz) = cellsOf f (l.take i) := by
  have e : cellsOf f l = cellsOf f (l.take i) ++ cellsOf f (l.drop i) := by rw [← cellsOf_append, List.take_append_drop]
  have hl : (cellsOf f (l.take i)).length = i * sz := by rw [cellsOf_len hf, List.length_take, Nat.min_eq_left h]
  rw [e, ← hl, List.take_left']
  rfl
theorem cellsOf_drop {α : Type} {f : α → List Value} {sz : Nat} (hf : ∀ x, (f x).length = sz) (l : List α) (i : Nat) (h : i ≤ l.length) : (cellsOf f l).drop (i * sz) = cellsOf f (l.drop i) := by
  have e : cellsOf f l = cellsOf f (l.take i) ++ cellsOf f (l.drop i) := by rw [← cellsOf_append, List.take_append_drop]
  have hl : (cellsOf f (l.take i)).length = i * sz := by rw [cellsOf_len hf, List.length_take, Nat.min_eq_left h]
  rw [e, ← hl, List.drop_left']
  rfl
theorem cellsOf_at {α : Type} {f : α → List Value} {sz : Nat} (hf : ∀ x, (f x).length = sz) (l : List α) (i j : Nat) (h : i < l.length) (hj : j < sz) : (cellsOf f l)[i * sz + j]? = (f l[i])[j]? := by
  have e : (cellsOf f l).drop (i * sz) = f l[i] ++ cellsOf f (l.drop (i + 1)) := by
    rw [cellsOf_drop hf l i (by omega), List.drop_eq_getElem_cons h]
    rfl
  rw [← List.getElem?_drop, e, List.getElem?_append_left (by rw [hf]; exact hj)]


/-- Do these ways lie in block g from place o on? -/
def WysIn (w : World) (g o : Nat) (l : List Wy) : Prop := ∀ i x, l[i]? = some x → w.rangeAt g (o + i * 11) (yc x)
theorem WysIn.below {w w' : World} {g o : Nat} {l : List Wy} (h : WysIn w g o l) (hg : g < w.heap.size) (hb : Below w.heap.size w w') : WysIn w' g o l :=
  fun i x hx j v hv => (hb.cell (p := ⟨g, o + i * 11 + j, none⟩) hg).trans (h i x hx j v hv)

/-- An array's own block: the sizes, and the slice of its ways. -/
abbrev acells (c : Cfg) (g n : Nat) : Array Value := #[.int .i64 c.co, .int .i64 c.ho, .int .i64 c.se, .int .i64 c.wa, .int .i64 c.wo, .int .i64 c.li, .int .i64 c.po, .int .i64 c.ms, .int .i64 c.bu, .int .i64 c.wb, .int .i64 c.r0, .int .i64 c.r1, .int .i64 c.r2, .slice (some ⟨g, 0, none⟩) n n]
/-- An array in memory. -/
structure Ar (w : World) (b g : Nat) (c : Cfg) (L : List Wy) : Prop where
  hd : ∀ o, w.cell? ⟨b, o, none⟩ = (acells c g L.length)[o]?
  bl : b < w.heap.size
  row : ∀ o, w.cell? ⟨g, o, none⟩ = (cellsOf yc L)[o]?
  fz : ∀ o, w.frozen? ⟨g, o, none⟩ = false
  gl : g < w.heap.size
  ne : b ≠ g
  sz : Sized c L
  fits : c.fits
theorem Ar.keep {w w' : World} {b g : Nat} {c : Cfg} {L : List Wy} (h : Ar w b g c L) (hs : w.heap.size ≤ w'.heap.size) (h1 : w'.heap[b]? = w.heap[b]?) (h2 : w'.heap[g]? = w.heap[g]?) : Ar w' b g c L :=
  ⟨fun o => (World.cell?_of_block (a := ⟨b, o, none⟩) h1).trans (h.hd o), Nat.lt_of_lt_of_le h.bl hs, fun o => (World.cell?_of_block (a := ⟨g, o, none⟩) h2).trans (h.row o), fun o => (World.frozen?_of_block (a := ⟨g, o, none⟩) h2).trans (h.fz o), Nat.lt_of_lt_of_le h.gl hs, h.ne, h.sz, h.fits⟩
theorem Ar.below {w w' : World} {b g : Nat} {c : Cfg} {L : List Wy} (h : Ar w b g c L) (hb : Below w.heap.size w w') : Ar w' b g c L := h.keep hb.size (hb.block b h.bl) (hb.block g h.gl)
theorem Ar.ways {w : World} {b g : Nat} {c : Cfg} {L : List Wy} (h : Ar w b g c L) : WysIn w g 0 L := by
  intro i x hx j v hv
  obtain ⟨hi, rfl⟩ := List.getElem?_eq_some_iff.1 hx
  have hj : j < 11 := by
    have := (List.getElem?_eq_some_iff.1 hv).1
    rwa [yc_len] at this
  rw [Nat.zero_add, h.row (i * 11 + j), cellsOf_at yc_len L i j hi hj]
  exact hv
/-- A line's set. -/
theorem Ar.part {w : World} {b g : Nat} {c : Cfg} {L : List Wy} (h : Ar w b g c L) (line : Int) : WysIn w g (soN c line * 11) (pt c L line) := by
  intro i x hx
  have hi : i < c.wa.toNat := by
    have := (List.getElem?_eq_some_iff.1 hx).1
    rwa [h.sz.pt_len] at this
  rw [h.sz.pt_at line i hi] at hx
  have := h.ways _ x hx
  rwa [Nat.zero_add, Nat.add_mul] at this

/-- Nothing that was there has changed but one block. -/
structure TurnG (g : Nat) (w w' : World) : Prop where
  os : w'.os = w.os
  tape : w'.tape = w.tape
  output : w'.output = w.output
  size : w.heap.size ≤ w'.heap.size
  other : ∀ k, k < w.heap.size → k ≠ g → w'.heap[k]? = w.heap[k]?
theorem TurnG.of_below {g : Nat} {w w' : World} (h : Below w.heap.size w w') : TurnG g w w' := ⟨h.os, h.tape, h.output, h.size, fun k hk _ => h.block k hk⟩
theorem TurnG.trans {g : Nat} {w w1 w2 : World} (h : TurnG g w w1) (k : TurnG g w1 w2) : TurnG g w w2 :=
  ⟨k.os.trans h.os, k.tape.trans h.tape, k.output.trans h.output, Nat.le_trans h.size k.size, fun i hi h1 => (k.other i (Nat.lt_of_lt_of_le hi h.size) h1).trans (h.other i hi h1)⟩
theorem TurnG.below {g B : Nat} {w w' : World} (h : TurnG g w w') (hg : B ≤ g) (hB : B ≤ w.heap.size) : Below B w w' := ⟨h.os, h.tape, h.output, h.size, fun k hk => h.other k (by omega) (by omega)⟩
theorem Ar.turn {w w' : World} {b g g' : Nat} {c : Cfg} {L : List Wy} (h : Ar w b g c L) (ht : TurnG g' w w') (h1 : b ≠ g') (h2 : g ≠ g') : Ar w' b g c L :=
  h.keep ht.size (ht.other b h.bl h1) (ht.other g h.gl h2)

/-! The smallest functions. -/
theorem taken_any (x : Wy) (w : World) :
    Calls Tryd.prog 29 #[.agg (ycells x)] w fun e w' => e = .returned (.bool (tk x)) ∧ Below w.heap.size w w' := by
  have hb : Below w.heap.size w (w.alloc (.cells (ycells x) 43)) := (Below.refl _ _).alloc (Nat.le_refl _) _
  rcases Bool.eq_false_or_eq_true (x.st != 0) with h | h
  · have HT : Hid (tk x = true) := Lib.hid (by simp [tk, h])
    go_enter Tryd.func29, Tryd.ntmps29
    go_wp2
    go_ret
    exact ⟨ret_bool HT.out.symm, hb⟩
  · have HT : Hid (tk x = x.lk) := Lib.hid (by simp [tk, h])
    go_enter Tryd.func29, Tryd.ntmps29
    go_wp2
    go_ret
    exact ⟨ret_bool HT.out.symm, hb⟩

theorem isState_any (s : Int) (w : World) :
    Calls Tryd.prog 33 #[.int .i64 s] w fun e w' => e = .returned (.bool (stOk s)) ∧ w = w' := by
  go_enter Tryd.func33, Tryd.ntmps33
  go_wp2
  all_goals
    go_ret
    refine ⟨ret_bool ?_, rfl⟩
    rw [Bool.eq_iff_iff]
    simp [stOk] at *
    omega

/-- The closure of placeOf: is a way the line's, and is it there? -/
theorem isIt_any (x : Wy) (p : Addr) (line : Int) (w : World) (hp : w.cell? p = some (.int .i64 line)) :
    Calls Tryd.prog 41 #[.agg (ycells x), .pointer (some p)] w fun e w' => e = .returned (.bool (isL line x)) ∧ Below w.heap.size w w' := by
  have hp2 : ∀ o, (w.alloc o).cell? p = some (.int .i64 line) := fun o => Lib.cell?_alloc_some o hp
  rcases Bool.eq_false_or_eq_true (x.ln == line) with h | h
  · have HT : Hid (isL line x = tk x) := Lib.hid (by simp [isL, h])
    go_enter Tryd.func41, Tryd.ntmps41
    go_wp2_with (go_at_call 29; refine (taken_any x _).mono ?_; rintro e w1 ⟨rfl, hb1⟩)
    go_ret
    exact ⟨ret_bool HT.out.symm, bbox hb1⟩
  · have HT : Hid (isL line x = false) := Lib.hid (by simp [isL, h])
    go_enter Tryd.func41, Tryd.ntmps41
    go_wp2_with (go_at_call 29; refine (taken_any x _).mono ?_; rintro e w1 ⟨rfl, hb1⟩)
    go_ret
    exact ⟨ret_bool HT.out.symm, (Below.refl _ _).alloc (Nat.le_refl _) _⟩

end Go.Proofs.YtldbepaclddgmaaDoor
