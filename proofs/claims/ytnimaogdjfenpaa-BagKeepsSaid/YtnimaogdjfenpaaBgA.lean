/-
  Rows of things, a bag in memory, and what a call on one may change: in plain words.
-/
import Derived.Test.YtnimaogdjfenpaaRows
import Derived.WalkKit
import Derived.WalkSpells
import Derived.WalkLawsBesides
import Derived.Lib.Hide
import Derived.Deep.AppendLies
import Derived.Deep.QuietTactic
import Derived.BigQuiet
namespace Go.Proofs.Ytnimaogdjfenpaa
open Go Go.RowKit

theorem ret_bool {a b : Bool} (h : a = b) : Ending.returned (.bool a) = .returned (.bool b) := by rw [h]
theorem ret_int {k : IntKind} {a b : Int} (h : a = b) : Ending.returned (.int k a) = .returned (.int k b) := by rw [h]
theorem bstep {w w1 w2 : World} (h : Below w.heap.size w w1) (h2 : Below w1.heap.size w1 w2) : Below w.heap.size w w2 := h.trans (h2.mono h.size)
theorem below_drewN {B : Nat} {w w' : World} (h : Below B w w') (n : Nat) : Below B w (w'.drewN n) := ⟨h.os, h.tape, h.output, h.size, h.block⟩
theorem below_setRow {B : Nat} {w w' : World} (h : Below B w w') {g : Nat} (hg : B ≤ g) (cs : Array Value) : Below B w (w'.setRow g cs) :=
  h.trans ⟨rfl, rfl, rfl, by simp, fun k hk => setRow_other w' g k cs (by omega)⟩
theorem blk_cell {w : World} {b : Nat} {L : Array Value} {t : TypeId} (h : w.heap[b]? = some (.cells L t (0, 0))) (i : Nat) : w.cell? ⟨b, i, none⟩ = L[i]? := by simp [World.cell?, h]
theorem blk_free {w : World} {b : Nat} {L : Array Value} {t : TypeId} (h : w.heap[b]? = some (.cells L t (0, 0))) (i : Nat) : w.frozen? ⟨b, i, none⟩ = false := by simp [World.frozen?, h]
theorem lt_of_block {w : World} {b : Nat} {o : Obj} (h : w.heap[b]? = some o) : b < w.heap.size := (Array.getElem?_eq_some_iff.1 h).1

/-- Things as cells. -/
def cellsOf {α : Type} (f : α → List Value) (l : List α) : List Value := l.flatMap f
theorem cellsOf_len {α : Type} {f : α → List Value} {sz : Nat} (hf : ∀ x, (f x).length = sz) (l : List α) : (cellsOf f l).length = l.length * sz := by
  induction l with
  | nil => simp [cellsOf]
  | cons x l ih =>
    have e : cellsOf f (x :: l) = f x ++ cellsOf f l := rfl
    rw [e, List.length_append, ih, hf, List.length_cons, Nat.add_mul, Nat.one_mul, Nat.add_comm]
theorem cellsOf_append {α : Type} (f : α → List Value) (l m : List α) : cellsOf f (l ++ m) = cellsOf f l ++ cellsOf f m := by simp [cellsOf]
theorem cellsOf_take {α : Type} {f : α → List Value} {sz : Nat} (hf : ∀ x, (f x).length = sz) (l : List α) (i : Nat) (h : i ≤ l.length) : (cellsOf f l).take (i * sz) = cellsOf f (l.take i) := by
  have e : cellsOf f l = cellsOf f (l.take i) ++ cellsOf f (l.drop i) := by rw [← cellsOf_append, List.take_append_drop]
  have hl : (cellsOf f (l.take i)).length = i * sz := by rw [cellsOf_len hf, List.length_take, Nat.min_eq_left h]
  rw [e, ← hl, List.take_left']
  rfl
theorem cellsOf_drop {α : Type} {f : α → List Value} {sz : Nat} (hf : ∀ x, (f x).length = sz) (l : List α) (i : Nat) (h : i ≤ l.length) : (cellsOf f l).drop (i * sz) = cellsOf f (l.drop i) := by
  have e : cellsOf f l = cellsOf f (l.take i) ++ cellsOf f (l.drop i) := by rw [← cellsOf_append, List.take_append_drop]
  have hl : (cellsOf f (l.take i)).length = i * sz := by rw [cellsOf_len hf, List.length_take, Nat.min_eq_left h]
  rw [e, ← hl, List.drop_left']
  rfl
theorem cellsOf_at {α : Type} {f : α → List Value} {sz : Nat} (hf : ∀ x, (f x).length = sz) (l : List α) (i j : Nat) (h : i < l.length) (hj : j < sz) : (cellsOf f l)[i * sz + j]? = (f l[i])[j]? := by
  have e : (cellsOf f l).drop (i * sz) = f l[i] ++ cellsOf f (l.drop (i + 1)) := by
    rw [cellsOf_drop hf l i (by omega), List.drop_eq_getElem_cons h]
    rfl
  rw [← List.getElem?_drop, e, List.getElem?_append_left (by rw [hf]; exact hj)]

/-- A bag in memory: its block, and the row of its things, both the call's own from block B on. -/
structure Bg {α : Type} (T e : TypeId) (sz : Nat) (f : α → List Value) (w : World) (B b : Nat) (room : Int) (l : List α) (v : Value) : Prop where
  blk : w.heap[b]? = some (.cells #[.int .i64 room, v] T (0, 0))
  row : w.ownsRow B e sz v l.length (cellsOf f l)
  off : v.ownBlock ≠ some b
  big : B ≤ b
/-- Of what was there nothing has changed but one block, and the block of one row. -/
structure Turn (b : Nat) (v : Value) (w w' : World) : Prop where
  os : w'.os = w.os
  tape : w'.tape = w.tape
  output : w'.output = w.output
  size : w.heap.size ≤ w'.heap.size
  other : ∀ k, k < w.heap.size → k ≠ b → v.ownBlock ≠ some k → w'.heap[k]? = w.heap[k]?
/-- A row's block is the one of before, or new. -/
def Fresh (w : World) (v v' : Value) : Prop := ∀ k, v'.ownBlock = some k → v.ownBlock = some k ∨ w.heap.size ≤ k
theorem Fresh.refl (w : World) (v : Value) : Fresh w v v := fun _ h => .inl h

theorem Turn.of_below {b : Nat} {v : Value} {w w' : World} (h : Below w.heap.size w w') : Turn b v w w' := ⟨h.os, h.tape, h.output, h.size, fun k hk _ _ => h.block k hk⟩
theorem Turn.trans {b : Nat} {v v' : Value} {w w1 w2 : World} (h : Turn b v w w1) (k : Turn b v' w1 w2) (hf : Fresh w v v') : Turn b v w w2 :=
  ⟨k.os.trans h.os, k.tape.trans h.tape, k.output.trans h.output, Nat.le_trans h.size k.size, fun i hi h1 h2 => (k.other i (Nat.lt_of_lt_of_le hi h.size) h1 (fun e => by rcases hf i e with e | e; exact h2 e; omega)).trans (h.other i hi h1 h2)⟩
theorem Turn.below {α : Type} {T e : TypeId} {sz : Nat} {f : α → List Value} {w w' : World} {B b : Nat} {room : Int} {l : List α} {v : Value} (h : Turn b v w w') (hb : Bg T e sz f w B b room l v) (hB : B ≤ w.heap.size) : Below B w w' :=
  ⟨h.os, h.tape, h.output, h.size, fun k hk => h.other k (by omega) (by have := hb.big; omega) (fun e => by have := hb.row.lt k e; omega)⟩

theorem Bg.lt {α : Type} {T e : TypeId} {sz : Nat} {f : α → List Value} {w : World} {B b : Nat} {room : Int} {l : List α} {v : Value} (h : Bg T e sz f w B b room l v) : b < w.heap.size := lt_of_block h.blk
theorem own_block {w w' : World} {base e sz n : Nat} {v : Value} {xs : List Value} (h : w.ownsRow base e sz v n xs) (hb : ∀ k, v.ownBlock = some k → w'.heap[k]? = w.heap[k]?) : w'.ownsRow base e sz v n xs := by
  refine ⟨h.1, ?_⟩
  rcases h.2 with hn | ⟨g, cap, cur, rfl, hb', hgg, rest⟩
  · exact .inl hn
  · exact .inr ⟨g, cap, cur, rfl, hb', (hb g rfl).trans hgg, rest⟩
theorem own_base {w : World} {base base' e sz n : Nat} {v : Value} {xs : List Value} (h : w.ownsRow base e sz v n xs) (hb : ∀ k, v.ownBlock = some k → base' ≤ k) : w.ownsRow base' e sz v n xs := by
  refine ⟨h.1, ?_⟩
  rcases h.2 with hn | ⟨g, cap, cur, rfl, hb', rest⟩
  · exact .inl hn
  · exact .inr ⟨g, cap, cur, rfl, hb g rfl, rest⟩
/-- A bag stands where neither its block nor its row's has changed. -/
theorem Bg.keep {α : Type} {T e : TypeId} {sz : Nat} {f : α → List Value} {w w' : World} {B b : Nat} {room : Int} {l : List α} {v : Value} (h : Bg T e sz f w B b room l v) (h1 : w'.heap[b]? = w.heap[b]?) (h2 : ∀ k, v.ownBlock = some k → w'.heap[k]? = w.heap[k]?) : Bg T e sz f w' B b room l v :=
  ⟨h1.trans h.blk, own_block h.row h2, h.off, h.big⟩
theorem Bg.below {α : Type} {T e : TypeId} {sz : Nat} {f : α → List Value} {w w' : World} {B b : Nat} {room : Int} {l : List α} {v : Value} (h : Bg T e sz f w B b room l v) (hb : Below w.heap.size w w') : Bg T e sz f w' B b room l v :=
  h.keep (hb.block b h.lt) fun k hk => hb.block k (h.row.lt k hk).2
theorem Bg.form {α : Type} {T e : TypeId} {sz : Nat} {f : α → List Value} {w : World} {B b : Nat} {room : Int} {l : List α} {v : Value} (h : Bg T e sz f w B b room l v) : ∃ p cap, v = .slice p l.length cap ∧ (0 < l.length → ∃ g, p = some ⟨g, 0, none⟩) := by
  rcases h.row.2 with ⟨e, h0⟩ | ⟨g, cap, cur, e, _⟩
  · exact ⟨none, 0, by rw [e, h0], fun h => by omega⟩
  · exact ⟨_, cap, e, fun _ => ⟨g, rfl⟩⟩
/-- A new bag. -/
theorem Bg.new {α : Type} {T e : TypeId} {sz : Nat} {f : α → List Value} {w : World} {B : Nat} {room : Int} (hB : B ≤ w.heap.size) : Bg T e sz f (w.alloc (.cells #[.int .i64 room, .slice none 0 0] T)) B w.heap.size room [] (.slice none 0 0) :=
  ⟨heap_alloc_new w _, World.ownsRow_nil _ _ _ _, by simp [Value.ownBlock], hB⟩

/-- A number, as a thing. -/
def one (n : Int) : List Value := [.int .i64 n]
theorem one_len (n : Int) : (one n).length = 1 := rfl
theorem cellsOf_one (l : List Int) : cellsOf one l = l.map (Value.int .i64) := by
  induction l with
  | nil => rfl
  | cons x l ih => rw [List.map_cons, ← ih]; rfl
abbrev BgI := @Bg Int 64 3 1 one
abbrev BgR := @Bg Int 40 3 1 one

end Go.Proofs.Ytnimaogdjfenpaa
