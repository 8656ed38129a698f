/-
  Rows of entries, a queue in memory, and what a call on one may change: in plain words.
-/
import Derived.Test.YtnpbbkiojoafbaaQuM
import Derived.WalkSpells
import Derived.WalkLawsBesides
import Derived.Deep.AppendLies
import Derived.Deep.QuietTactic
import Derived.BigQuiet
import Derived.Deep.RegionLaw
import Derived.Deep.MidRow
import Derived.Lib.SliceRun
import Derived.Laws.CopyRow
namespace Go.Proofs.Ytnpbbkiojoafbaa
open Go Go.RowKit

theorem ret_pair {a b : Int} {c d : Bool} (h : a = b) (h' : c = d) : Ending.returned (.tuple #[.int .i64 a, .bool c]) = .returned (.tuple #[.int .i64 b, .bool d]) := by rw [h, h']
theorem bbox {w w1 : World} {o : Obj} (h : Below (w.alloc o).heap.size (w.alloc o) w1) : Below w.heap.size w w1 := ((Below.refl _ _).alloc (Nat.le_refl _) _).trans (h.mono (by simp))
theorem zbox {w w1 : World} {o : Obj} (h : Below (w.alloc o).heap.size (w.alloc o) w1) : w.heap.size < w1.heap.size := by have := h.size; simp at this; omega
theorem balloc (w : World) (o : Obj) : Below w.heap.size w (w.alloc o) := (Below.refl _ _).alloc (Nat.le_refl _) _
theorem box_at {w w1 : World} {o : Obj} (h : Below (w.alloc o).heap.size (w.alloc o) w1) : w1.heap[w.heap.size]? = some o := (h.block w.heap.size (by simp)).trans (heap_alloc_new w o)
theorem ret_bool {a b : Bool} (h : a = b) : Ending.returned (.bool a) = .returned (.bool b) := by rw [h]
theorem ret_int {k : IntKind} {a b : Int} (h : a = b) : Ending.returned (.int k a) = .returned (.int k b) := by rw [h]
theorem bstep {w w1 w2 : World} (h : Below w.heap.size w w1) (h2 : Below w1.heap.size w1 w2) : Below w.heap.size w w2 := h.trans (h2.mono h.size)
theorem below_drewN {B : Nat} {w w' : World} (h : Below B w w') (n : Nat) : Below B w (w'.drewN n) := ⟨h.os, h.tape, h.output, h.size, h.block⟩
theorem below_setRow {B : Nat} {w w' : World} (h : Below B w w') {g : Nat} (hg : B ≤ g) (cs : Array Value) : Below B w (w'.setRow g cs) :=
  h.trans ⟨rfl, rfl, rfl, by simp, fun k hk => setRow_other w' g k cs (by omega)⟩
theorem blk_cell {w : World} {b : Nat} {L : Array Value} {t : TypeId} (h : w.heap[b]? = some (.cells L t (0, 0))) (i : Nat) : w.cell? ⟨b, i, none⟩ = L[i]? := by simp [World.cell?, h]
theorem blk_free {w : World} {b : Nat} {L : Array Value} {t : TypeId} (h : w.heap[b]? = some (.cells L t (0, 0))) (i : Nat) : w.frozen? ⟨b, i, none⟩ = false := by simp [World.frozen?, h]
theorem lt_of_block {w : World} {b : Nat} {o : Obj} (h : w.heap[b]? = some o) : b < w.heap.size := (Array.getElem?_eq_some_iff.1 h).1

/-- Things as cells. -/
def cellsOf {α : Type} (f : α → List Value) (l : List α) : List Value := l.flatMap f
theorem cellsOf_len {α : Type} {f : α → List Value} {sz : Nat} (hf : ∀ x, (f x).length = sz) (l : List α) : (cellsOf f l).length = l.length * sz := by
  induction l with
  | nil => simp [cellsOf]
  | cons x l ih =>
    have e : cellsOf f (x :: l) = f x ++ cellsOf f l := rfl
    rw [e, List.length_append, ih, hf, List.length_cons, Nat.add_mul, Nat.one_mul, Nat.add_comm]
theorem cellsOf_append {α : Type} (f : α → List Value) (l m : List α) : cellsOf f (l ++ m) = cellsOf f l ++ cellsOf f m := by simp [cellsOf]
theorem cellsOf_take {α : Type} {f : α → List Value} {sz : Nat} (hf : ∀ x, (f x).length = sz) (l : List α) (i : Nat) (h : i ≤ l.length) : (cellsOf f l).take (i * sz) = cellsOf f (l.take i) := by
  have e : cellsOf f l = cellsOf f (l.take i) ++ cellsOf f (l.drop i) := by rw [← cellsOf_append, List.take_append_drop]
  have hl : (cellsOf f (l.take i)).length = i * sz := by rw [cellsOf_len hf, List.length_take, Nat.min_eq_left h]
  rw [e, ← hl, List.take_left']
  rfl
theorem cellsOf_drop {α : Type} {f : α → List Value} {sz : Nat} (hf : ∀ x, (f x).length = sz) (l : List α) (i : Nat) (h : i ≤ l.length) : (cellsOf f l).drop (i * sz) = cellsOf f (l.drop i) := by
  have e : cellsOf f l = cellsOf f (l.take i) ++ cellsOf f (l.drop i) := by rw [← cellsOf_append, List.take_append_drop]
  have hl : (cellsOf f (l.take i)).length = i * sz := by rw [cellsOf_len hf, List.length_take, Nat.min_eq_left h]
  rw [e, ← hl, List.drop_left']
  rfl
theorem cellsOf_at {α : Type} {f : α → List Value} {sz : Nat} (hf : ∀ x, (f x).length = sz) (l : List α) (i j : Nat) (h : i < l.length) (hj : j < sz) : (cellsOf f l)[i * sz + j]? = (f l[i])[j]? := by
  have e : (cellsOf f l).drop (i * sz) = f l[i] ++ cellsOf f (l.drop (i + 1)) := by
    rw [cellsOf_drop hf l i (by omega), List.drop_eq_getElem_cons h]
    rfl
  rw [← List.getElem?_drop, e, List.getElem?_append_left (by rw [hf]; exact hj)]

/-- A bag in memory: its block, and the row of its things, both the call's own from block B on. -/
structure Bg {α : Type} (T e : TypeId) (sz : Nat) (f : α → List Value) (w : World) (B b : Nat) (room : Int) (l : List α) (v : Value) : Prop where
  blk : w.heap[b]? = some (.cells #[.int .i64 room, v] T (0, 0))
  row : w.ownsRow B e sz v l.length (cellsOf f l)
  off : v.ownBlock ≠ some b
  big : B ≤ b
/-- Of what was there nothing has changed but one block, and the block of one row. -/
structure Turn (b : Nat) (v : Value) (w w' : World) : Prop where
  os : w'.os = w.os
  tape : w'.tape = w.tape
  output : w'.output = w.output
  size : w.heap.size ≤ w'.heap.size
  other : ∀ k, k < w.heap.size → k ≠ b → v.ownBlock ≠ some k → w'.heap[k]? = w.heap[k]?
/-- A row's block is the one of before, or new. -/
def Fresh (w : World) (v v' : Value) : Prop := ∀ k, v'.ownBlock = some k → v.ownBlock = some k ∨ w.heap.size ≤ k
theorem Fresh.refl (w : World) (v : Value) : Fresh w v v := fun _ h => .inl h

theorem Turn.of_below {b : Nat} {v : Value} {w w' : World} (h : Below w.heap.size w w') : Turn b v w w' := ⟨h.os, h.tape, h.output, h.size, fun k hk _ _ => h.block k hk⟩
theorem Turn.trans {b : Nat} {v v' : Value} {w w1 w2 : World} (h : Turn b v w w1) (k : Turn b v' w1 w2) (hf : Fresh w v v') : Turn b v w w2 :=
  ⟨k.os.trans h.os, k.tape.trans h.tape, k.output.trans h.output, Nat.le_trans h.size k.size, fun i hi h1 h2 => (k.other i (Nat.lt_of_lt_of_le hi h.size) h1 (fun e => by rcases hf i e with e | e; exact h2 e; omega)).trans (h.other i hi h1 h2)⟩
theorem Turn.below {α : Type} {T e : TypeId} {sz : Nat} {f : α → List Value} {w w' : World} {B b : Nat} {room : Int} {l : List α} {v : Value} (h : Turn b v w w') (hb : Bg T e sz f w B b room l v) (hB : B ≤ w.heap.size) : Below B w w' :=
  ⟨h.os, h.tape, h.output, h.size, fun k hk => h.other k (by omega) (by have := hb.big; omega) (fun e => by have := hb.row.lt k e; omega)⟩

theorem Bg.lt {α : Type} {T e : TypeId} {sz : Nat} {f : α → List Value} {w : World} {B b : Nat} {room : Int} {l : List α} {v : Value} (h : Bg T e sz f w B b room l v) : b < w.heap.size := lt_of_block h.blk
theorem own_block {w w' : World} {base e sz n : Nat} {v : Value} {xs : List Value} (h : w.ownsRow base e sz v n xs) (hb : ∀ k, v.ownBlock = some k → w'.heap[k]? = w.heap[k]?) : w'.ownsRow base e sz v n xs := by
  refine ⟨h.1, ?_⟩
  rcases h.2 with hn | ⟨g, cap, cur, rfl, hb', hgg, rest⟩
  · exact .inl hn
  · exact .inr ⟨g, cap, cur, rfl, hb', (hb g rfl).trans hgg, rest⟩
theorem own_base {w : World} {base base' e sz n : Nat} {v : Value} {xs : List Value} (h : w.ownsRow base e sz v n xs) (hb : ∀ k, v.ownBlock = some k → base' ≤ k) : w.ownsRow base' e sz v n xs := by
  refine ⟨h.1, ?_⟩
  rcases h.2 with hn | ⟨g, cap, cur, rfl, hb', rest⟩
  · exact .inl hn
  · exact .inr ⟨g, cap, cur, rfl, hb g rfl, rest⟩
/-- A bag stands where neither its block nor its row's has changed. -/
theorem Bg.keep {α : Type} {T e : TypeId} {sz : Nat} {f : α → List Value} {w w' : World} {B b : Nat} {room : Int} {l : List α} {v : Value} (h : Bg T e sz f w B b room l v) (h1 : w'.heap[b]? = w.heap[b]?) (h2 : ∀ k, v.ownBlock = some k → w'.heap[k]? = w.heap[k]?) : Bg T e sz f w' B b room l v :=
  ⟨h1.trans h.blk, own_block h.row h2, h.off, h.big⟩
theorem Bg.below {α : Type} {T e : TypeId} {sz : Nat} {f : α → List Value} {w w' : World} {B b : Nat} {room : Int} {l : List α} {v : Value} (h : Bg T e sz f w B b room l v) (hb : Below w.heap.size w w') : Bg T e sz f w' B b room l v :=
  h.keep (hb.block b h.lt) fun k hk => hb.block k (h.row.lt k hk).2
theorem Bg.form {α : Type} {T e : TypeId} {sz : Nat} {f : α → List Value} {w : World} {B b : Nat} {room : Int} {l : List α} {v : Value} (h : Bg T e sz f w B b room l v) : ∃ p cap, v = .slice p l.length cap ∧ (0 < l.length → ∃ g, p = some ⟨g, 0, none⟩) := by
  rcases h.row.2 with ⟨e, h0⟩ | ⟨g, cap, cur, e, _⟩
  · exact ⟨none, 0, by rw [e, h0], fun h => by omega⟩
  · exact ⟨_, cap, e, fun _ => ⟨g, rfl⟩⟩
/-- A new bag. -/
theorem Bg.new {α : Type} {T e : TypeId} {sz : Nat} {f : α → List Value} {w : World} {B : Nat} {room : Int} (hB : B ≤ w.heap.size) : Bg T e sz f (w.alloc (.cells #[.int .i64 room, .slice none 0 0] T)) B w.heap.size room [] (.slice none 0 0) :=
  ⟨heap_alloc_new w _, World.ownsRow_nil _ _ _ _, by simp [Value.ownBlock], hB⟩

/-- What is behind a Put: the bag has one thing more. -/
def PutGave {α : Type} (T e : TypeId) (sz : Nat) (f : α → List Value) (w : World) (B b : Nat) (room : Int) (l : List α) (v : Value) (w' : World) : Prop := ∃ v', Bg T e sz f w' B b room l v' ∧ Turn b v w w' ∧ Fresh w v v'
theorem put_blk {α : Type} {T e : TypeId} {sz : Nat} {f : α → List Value} {w w1 w2 : World} {B b : Nat} {room : Int} {l : List α} {v : Value} (h : Bg T e sz f w B b room l v) (hw : Below w.heap.size w w1) (hgrow : w1.grownBy w2 v.ownBlock) : w2.heap[b]? = some (.cells #[.int .i64 room, v] T (0, 0)) :=
  (hgrow.block b (Nat.lt_of_lt_of_le h.lt hw.size) (fun e => h.off e.symm)).trans ((hw.block b h.lt).trans h.blk)
theorem put_gave {α : Type} {T e : TypeId} {sz : Nat} {f : α → List Value} {w w1 w2 : World} {B b : Nat} {room : Int} {l : List α} {x : α} {v : Value} {g cap : Nat} (h : Bg T e sz f w B b room l v) (hw : Below w.heap.size w w1)
    (hown : w2.ownsRow B e sz (.slice (some ⟨g, 0, none⟩) (l.length + 1) cap) (l.length + 1) (cellsOf f l ++ f x)) (hgrow : w1.grownBy w2 v.ownBlock) (hat : v.ownBlock = some g ∨ w.heap.size ≤ g) :
    PutGave T e sz f w B b room (l ++ [x]) v (w2.setCell ⟨b, 1, none⟩ (.slice (some ⟨g, 0, none⟩) (l.length + 1) cap)) := by
  have hbl := h.lt
  have hb2 : w2.heap[b]? = some (.cells #[.int .i64 room, v] T (0, 0)) := (hgrow.block b (Nat.lt_of_lt_of_le hbl hw.size) (fun e => h.off e.symm)).trans ((hw.block b hbl).trans h.blk)
  have hgb : g ≠ b := by
    rcases hat with hat | hat
    · exact fun e => h.off (e ▸ hat)
    · omega
  refine ⟨.slice (some ⟨g, 0, none⟩) (l.length + 1) cap, ⟨?_, ?_, ?_, h.big⟩, ?_, ?_⟩
  · rw [heap_setCell_same w2 b 1 _ _ _ hb2]
    rfl
  · have := own_block (w' := w2.setCell ⟨b, 1, none⟩ (.slice (some ⟨g, 0, none⟩) (l.length + 1) cap)) hown fun k hk => by
      simp only [Value.ownBlock, Option.some.injEq] at hk
      exact heap_setCell_other _ _ _ _ (by simp only; omega)
    rw [List.length_append, List.length_singleton, cellsOf_append]
    simpa [cellsOf] using this
  · simpa [Value.ownBlock] using hgb
  · refine ⟨?_, ?_, ?_, ?_, fun k hk h1 h2 => ?_⟩
    · exact hgrow.os.trans hw.os
    · exact hgrow.tape.trans hw.tape
    · exact hgrow.output.trans hw.output
    · have h3 := hw.size; have h4 := hgrow.size; simp [World.setCell]; omega
    · exact (heap_setCell_other _ _ _ _ h1).trans ((hgrow.block k (Nat.lt_of_lt_of_le hk hw.size) (fun e => h2 e.symm)).trans (hw.block k hk))
  · intro k hk
    simp only [Value.ownBlock, Option.some.injEq] at hk
    rcases hat with hat | hat
    · exact .inl (hk ▸ hat)
    · exact .inr (hk ▸ hat)

/-- Nothing but one block has changed. -/
structure Only (b : Nat) (w w' : World) : Prop where
  os : w'.os = w.os
  tape : w'.tape = w.tape
  output : w'.output = w.output
  size : w'.heap.size = w.heap.size
  other : ∀ c, c ≠ b → w'.heap[c]? = w.heap[c]?
/-- What a call gives that makes a row of its own. -/
def RowGave {α : Type} (e : TypeId) (sz : Nat) (f : α → List Value) (l : List α) (w : World) (x : Ending) (w' : World) : Prop := ∃ v, x = .returned v ∧ w'.ownsRow w.heap.size e sz v l.length (cellsOf f l) ∧ Below w.heap.size w w'


theorem results_cell_two {P : Program} {fn : Func} {p q : Tmp} {ty : TypeId} (h : fn.results = #[.cell p ty, .tmp q]) (tmps : Array Value) (w : World) (g : Nat) (t : TypeId) (cs : Array Value) (fr : Nat × Nat) (d : TypeDesc)
    (hp : tmps.getD p undef = .pointer (some ⟨g, 0, none⟩)) (hg : w.heap[g]? = some (.cells cs t fr))
    (hu : P.underlying ty = some d) (hd : (match d with | .struct _ | .array _ _ => true | _ => false) = true) (hi : (P.info? ty).map (·.size) = some cs.size) :
    (results fn tmps).run P w = .ok (.tuple #[.agg cs, tmps.getD q undef]) w := by
  have hp' : tmps[p]?.getD undef = .pointer (some ⟨g, 0, none⟩) := by simpa using hp
  simp [results, h, hp', asAddr, run_loadVar_row w g t ty cs fr d hg hu hd hi]

theorem new_at2 (w : World) (A B : Obj) : ((w.alloc A).alloc B).heap[w.heap.size + 1]? = some B := by
  have h1 := heap_alloc_new (w.alloc A) B
  have e1 : (w.alloc A).heap.size = w.heap.size + 1 := by simp
  rwa [e1] at h1
theorem new_at1 (w : World) (A B : Obj) : ((w.alloc A).alloc B).heap[w.heap.size]? = some A := by
  rw [Below.heap_alloc _ _ _ (by simp)]
  exact heap_alloc_new w A


theorem ec_one (x : Ep) : ∀ u ∈ ec x, u.oneCell' = true := by
  intro u hu
  simp [ec] at hu
  rcases hu with rfl | rfl | rfl | rfl | rfl | rfl | rfl | rfl | rfl | rfl | rfl | rfl | rfl | rfl | rfl | rfl | rfl <;> rfl
theorem ecs_one (l : List Ep) : ∀ u ∈ cellsOf ec l, u.oneCell' = true := by
  intro u hu
  obtain ⟨m, _, hm⟩ := List.mem_flatMap.1 hu
  exact ec_one m u hm
theorem heap_drew (w : World) : w.drew.heap = w.heap := rfl

/-- Where a slice's entries lie. -/
def EpIn (w : World) (p : Option Addr) (l : List Ep) : Prop := ∀ i x, l[i]? = some x → ∃ g, p = some ⟨g, 0, none⟩ ∧ g < w.heap.size ∧ w.rangeAt g (i * 17) (ec x)
theorem EpIn.step {w w' : World} {p : Option Addr} {l : List Ep} (h : EpIn w p l) (hb : Below w.heap.size w w') : EpIn w' p l := fun i x hx => by
  obtain ⟨g, e, hg, hr⟩ := h i x hx
  exact ⟨g, e, Nat.lt_of_lt_of_le hg hb.size, fun j v hv => (hb.cell (p := ⟨g, i * 17 + j, none⟩) hg).trans (hr j v hv)⟩
theorem own_ins {w : World} {B e : Nat} {v : Value} {l : List Ep} (h : w.ownsRow B e 17 v l.length (cellsOf ec l)) : ∃ p cap, v = .slice p l.length cap ∧ EpIn w p l := by
  rcases h.2 with ⟨rfl, h0⟩ | ⟨g, cap, cur, rfl, hb, hg, rest⟩
  · exact ⟨none, 0, by rw [h0], fun i x hx => by have := (List.getElem?_eq_some_iff.1 hx).1; omega⟩
  · refine ⟨_, cap, rfl, fun i x hx => ⟨g, rfl, lt_of_block hg, fun j u hu => ?_⟩⟩
    obtain ⟨hi, rfl⟩ := List.getElem?_eq_some_iff.1 hx
    have hj : j < 17 := by
      have := (List.getElem?_eq_some_iff.1 hu).1
      rwa [ec_len] at this
    have := h.cells (g := g) rfl (i * 17 + j) u (by rw [cellsOf_at ec_len l i j hi hj]; exact hu)
    rwa [Addr.add_lit, Nat.zero_add] at this
theorem Bg.ins {T e : TypeId} {w : World} {B b : Nat} {room : Int} {l : List Ep} {v : Value} (h : Bg T e 17 ec w B b room l v) : ∃ p cap, v = .slice p l.length cap ∧ EpIn w p l := own_ins h.row
/-- Where one entry lies. -/
theorem Bg.one {T e : TypeId} {w : World} {B b : Nat} {room : Int} {l : List Ep} {v : Value} (h : Bg T e 17 ec w B b room l v) {i : Nat} {x : Ep} (hx : l[i]? = some x) :
    ∃ g cap, v = .slice (some ⟨g, 0, none⟩) l.length cap ∧ b ≠ g ∧ g < w.heap.size ∧ B ≤ g ∧ w.rangeAt g (i * 17) (ec x) ∧ (∀ o, w.frozen? ⟨g, o, none⟩ = false) ∧ l.length ≤ cap ∧ cap ≤ maxLen := by
  have hi := (List.getElem?_eq_some_iff.1 hx).1
  obtain ⟨p, cap, e0, hin⟩ := h.ins
  obtain ⟨g, rfl, hg, hr⟩ := hin i x hx
  subst e0
  rcases h.row.2 with ⟨e0, h0⟩ | ⟨g', cap', cur, e0, hB, hgg, h1, h2, _⟩
  · cases e0
  · obtain ⟨rfl, rfl⟩ : g = g' ∧ cap = cap' := by simpa using e0
    exact ⟨g, cap, rfl, fun e => h.off (by rw [e]; rfl), hg, hB, hr, fun o => blk_free hgg o, h1, h2⟩

/-- Cells of a block that is known whole are set anew. -/
theorem heap_setCells_row (g : Nat) (t : TypeId) : ∀ (vs : List Value) (o : Nat) (cur : Array Value) (w : World), w.heap[g]? = some (.cells cur t (0, 0)) → o + vs.length ≤ cur.size →
    (w.setCells g o vs).heap[g]? = some (.cells (cur.toList.take o ++ vs ++ cur.toList.drop (o + vs.length)).toArray t (0, 0))
  | [], o, cur, w, hg, _ => by simpa [World.setCells] using hg
  | v :: r, o, cur, w, hg, hl => by
    have ih := heap_setCells_row g t r (o + 1) (cur.setIfInBounds o v) (w.setCell ⟨g, o, none⟩ v) (by rw [heap_setCell_same w g o _ _ _ hg]) (by simp at hl ⊢; omega)
    rw [World.setCells, ih]
    congr 3
    have e := list_seg_step cur.toList o v r (by simp at hl ⊢; omega)
    simpa [Array.toList_setIfInBounds, Nat.add_assoc, Nat.add_comm] using e
theorem heap_setCells_other (b : Nat) : ∀ (vs : List Value) (o : Nat) (w : World) (k : Nat), k ≠ b → (w.setCells b o vs).heap[k]? = w.heap[k]?
  | [], _, _, _, _ => rfl
  | v :: r, o, w, k, h => by rw [World.setCells, heap_setCells_other b r (o + 1) _ k h, heap_setCell_other _ _ _ _ h]
theorem setCells_rest (b : Nat) : ∀ (vs : List Value) (o : Nat) (w : World), (w.setCells b o vs).os = w.os ∧ (w.setCells b o vs).tape = w.tape ∧ (w.setCells b o vs).output = w.output ∧ (w.setCells b o vs).heap.size = w.heap.size
  | [], _, _ => ⟨rfl, rfl, rfl, rfl⟩
  | v :: r, o, w => by
    obtain ⟨h1, h2, h3, h4⟩ := setCells_rest b r (o + 1) (w.setCell ⟨b, o, none⟩ v)
    rw [World.setCells]
    exact ⟨h1, h2, h3, by rw [h4]; simp⟩
/-- What it makes of a row's cells. -/
theorem cells_set {l : List Ep} {i : Nat} {x y : Ep} (hx : l[i]? = some x) (j : Nat) (vs : List Value) (hj : j + vs.length ≤ 17) (hin : ∀ m, m < vs.length → (ec y)[j + m]? = vs[m]?) (hout : ∀ m, m < 17 → m < j ∨ j + vs.length ≤ m → (ec y)[m]? = (ec x)[m]?) :
    (cellsOf ec l).take (i * 17 + j) ++ vs ++ (cellsOf ec l).drop (i * 17 + j + vs.length) = cellsOf ec (l.set i y) := by
  obtain ⟨hi, rfl⟩ := List.getElem?_eq_some_iff.1 hx
  have hL := cellsOf_len ec_len l
  have hsplit : cellsOf ec l = cellsOf ec (l.take i) ++ (ec l[i] ++ cellsOf ec (l.drop (i + 1))) := by
    conv => lhs; rw [← List.take_append_drop i l, cellsOf_append, List.drop_eq_getElem_cons hi]
    rfl
  have hset : cellsOf ec (l.set i y) = cellsOf ec (l.take i) ++ (ec y ++ cellsOf ec (l.drop (i + 1))) := by
    rw [List.set_eq_take_append_cons_drop, if_pos hi, cellsOf_append]
    rfl
  have hA : (cellsOf ec (l.take i)).length = i * 17 := by rw [cellsOf_len ec_len, List.length_take, Nat.min_eq_left (by omega)]
  have hy : ec y = (ec l[i]).take j ++ vs ++ (ec l[i]).drop (j + vs.length) := by
    refine List.ext_getElem? fun m => ?_
    by_cases h17 : m < 17
    · by_cases h1 : m < j
      · rw [hout m h17 (.inl h1), List.append_assoc, List.getElem?_append_left (by rw [List.length_take, ec_len]; omega), List.getElem?_take, if_pos h1]
      · by_cases h2 : m < j + vs.length
        · rw [List.append_assoc, List.getElem?_append_right (by rw [List.length_take, ec_len]; omega), List.getElem?_append_left (by rw [List.length_take, ec_len]; omega)]
          have := hin (m - j) (by omega)
          rw [show j + (m - j) = m by omega] at this
          rw [this, List.length_take, ec_len, Nat.min_eq_left (by omega)]
        · rw [hout m h17 (.inr (by omega)), List.getElem?_append_right (by rw [List.length_append, List.length_take, ec_len]; omega), List.getElem?_drop, List.length_append, List.length_take, ec_len, Nat.min_eq_left (by omega)]
          congr 1; omega
    · rw [List.getElem?_eq_none (by rw [ec_len]; omega), List.getElem?_eq_none (by rw [List.length_append, List.length_append, List.length_take, List.length_drop, ec_len]; omega)]
  rw [hset, hy, hsplit]
  have e1 : (cellsOf ec (l.take i) ++ (ec l[i] ++ cellsOf ec (l.drop (i + 1)))).take (i * 17 + j) = cellsOf ec (l.take i) ++ (ec l[i]).take j := by
    rw [← hA, List.take_length_add_append, List.take_append_of_le_length (by rw [ec_len]; omega)]
  have e2 : (cellsOf ec (l.take i) ++ (ec l[i] ++ cellsOf ec (l.drop (i + 1)))).drop (i * 17 + j + vs.length) = (ec l[i]).drop (j + vs.length) ++ cellsOf ec (l.drop (i + 1)) := by
    rw [← hA, Nat.add_assoc, List.drop_length_add_append, List.drop_append_of_le_length (by rw [ec_len]; omega)]
  rw [e1, e2]
  simp only [List.append_assoc]
/-- Some cells of an entry are set anew. -/
theorem Bg.store {T e : TypeId} {w : World} {B b : Nat} {room : Int} {l : List Ep} {g cap : Nat} (h : Bg T e 17 ec w B b room l (.slice (some ⟨g, 0, none⟩) l.length cap)) {i : Nat} {x : Ep} (hx : l[i]? = some x) (y : Ep) (j : Nat) (vs : List Value) (hj : j + vs.length ≤ 17)
    (hin : ∀ m, m < vs.length → (ec y)[j + m]? = vs[m]?) (hout : ∀ m, m < 17 → m < j ∨ j + vs.length ≤ m → (ec y)[m]? = (ec x)[m]?) : Bg T e 17 ec (w.setCells g (i * 17 + j) vs) B b room (l.set i y) (.slice (some ⟨g, 0, none⟩) l.length cap) := by
  have hi := (List.getElem?_eq_some_iff.1 hx).1
  have hgb : b ≠ g := fun e => h.off (by rw [e]; rfl)
  obtain ⟨hlen, hh⟩ := h.row
  rcases hh with ⟨e0, h0⟩ | ⟨g', cap', cur, e0, hB, hgg, h1, h2, h3, h4⟩
  · cases e0
  · obtain ⟨rfl, rfl⟩ : g = g' ∧ cap = cap' := by simpa using e0
    have hfit : l.length * 17 ≤ cap * 17 := Nat.mul_le_mul_right _ h1
    have hi17 : (i + 1) * 17 ≤ l.length * 17 := Nat.mul_le_mul_right _ hi
    rw [Nat.add_mul] at hi17
    have hst := heap_setCells_row g e vs (i * 17 + j) cur w hgg (by omega)
    refine ⟨(heap_setCells_other g vs _ w b hgb).trans h.blk, ?_, h.off, h.big⟩
    rw [List.length_set]
    refine ⟨by rw [cellsOf_len ec_len, List.length_set], .inr ⟨g, cap, _, rfl, hB, hst, h1, h2, ?_, ?_⟩⟩
    · simp only [List.size_toArray, List.length_append, List.length_take, List.length_drop, Array.length_toList]
      omega
    · rw [List.toList_toArray]
      have e5 : cur.toList.drop (i * 17 + j + vs.length) = (cellsOf ec l).drop (i * 17 + j + vs.length) ++ cur.toList.drop (l.length * 17) := by
        have : cur.toList = cellsOf ec l ++ cur.toList.drop (l.length * 17) := by rw [← h4, List.take_append_drop]
        conv => lhs; rw [this]
        rw [List.drop_append_of_le_length (by rw [hlen]; omega)]
      have e6 : cur.toList.take (i * 17 + j) = (cellsOf ec l).take (i * 17 + j) := by
        rw [← h4, List.take_take, Nat.min_eq_left (by omega)]
      rw [e5, e6, ← List.append_assoc, cells_set hx j vs hj hin hout]
      have : (cellsOf ec (l.set i y)).length = l.length * 17 := by rw [cellsOf_len ec_len, List.length_set]
      rw [← this, List.take_left']
      rfl
theorem turn_setCells {b g n cap : Nat} (o : Nat) (vs : List Value) (w : World) : Turn b (.slice (some ⟨g, 0, none⟩) n cap) w (w.setCells g o vs) := by
  obtain ⟨h1, h2, h3, h4⟩ := setCells_rest g vs o w
  exact ⟨h1, h2, h3, by omega, fun k _ _ hne => heap_setCells_other g vs o w k (fun e => hne (by rw [e]; rfl))⟩
theorem gave_same {T e : TypeId} {w w' : World} {B b : Nat} {room : Int} {l : List Ep} {v : Value} (h : Bg T e 17 ec w B b room l v) (hb : Below w.heap.size w w') : PutGave T e 17 ec w B b room l v w' := ⟨v, h.below hb, .of_below hb, Fresh.refl _ _⟩
theorem gave_store {T e : TypeId} {w w1 : World} {B b : Nat} {room : Int} {l : List Ep} {g cap : Nat} (h : Bg T e 17 ec w B b room l (.slice (some ⟨g, 0, none⟩) l.length cap)) (hb : Below w.heap.size w w1) {i : Nat} {x : Ep} (hx : l[i]? = some x) (y : Ep) (j : Nat) (vs : List Value) (hj : j + vs.length ≤ 17)
    (hin : ∀ m, m < vs.length → (ec y)[j + m]? = vs[m]?) (hout : ∀ m, m < 17 → m < j ∨ j + vs.length ≤ m → (ec y)[m]? = (ec x)[m]?) : PutGave T e 17 ec w B b room (l.set i y) (.slice (some ⟨g, 0, none⟩) l.length cap) (w1.setCells g (i * 17 + j) vs) := by
  refine ⟨_, (h.below hb).store hx y j vs hj hin hout, ?_, Fresh.refl _ _⟩
  have ht := turn_setCells (b := b) (g := g) (n := l.length) (cap := cap) (i * 17 + j) vs w1
  exact (Turn.of_below hb).trans ht (Fresh.refl _ _)

/-- append in place, at a step of a region that draws its order: the row is known whole. -/
theorem step_append_row {P : Program} {ops : Array Oper} {o : Oper} {a : Act} {w : World} {K : Act → World → Prop} {Q : Exit → Act → World → Prop} {E : Prop}
    (hg : o.guard = none) (s x : Operand) (t : TypeId) (hop : o.op = Op.call { callee := Callee.builtin Builtin.append, args := #[s, x], argTypes := #[t, t] })
    (e : TypeId) (i : TypeInfo) (size : Nat) (h1 : P.underlying t = some (.slice e)) (h2 : P.info? e = some i) (h4 : i.size = size)
    (b n cap : Nat) (cur : Array Value) (hb : w.heap[b]? = some (.cells cur e (0, 0))) (hs : a.eval s = .slice (some ⟨b, 0, none⟩) n cap)
    (ad : Addr) (m c : Nat) (news : List Value) (hx : a.eval x = .slice (some ad) m c) (hn : news.length = m * size) (hc : ∀ j u, news[j]? = some u → w.cell? (ad.add j) = some u) (h1c : ∀ u ∈ news, u.oneCell' = true)
    (hroom : n + m ≤ cap) (hfit : n * size + news.length ≤ cur.size)
    (hK : K (a.put o.dst (.slice (some ⟨b, 0, none⟩) (n + m) cap)) (w.setRow b (cur.toList.take (n * size) ++ news ++ cur.toList.drop (n * size + news.length)).toArray)) :
    if Region.wanted o (yielded ops a.tmps) = true then Oper.wp P o a w K Q else E := by
  have hw : Region.wanted o (yielded ops a.tmps) = true := by simp [Region.wanted, hg]
  rw [if_pos hw]
  subst h4
  have hrun := run_append_room (P := P) w t o.type e i h1 h2 b n cap cur hb ad m c news hn hc h1c hroom hfit
  unfold Oper.wp
  simp [execOp, hop, resolve, invoke, builtin, hs, hx, hrun, Result.andThen]
  rw [List.append_assoc] at hK
  exact hK

/-- 'clear' of one element of a row that is known whole. -/
theorem run_clear_row {P : Program} (w : World) (t e ty : TypeId) (z : Value) (ht : P.underlying t = some (.slice e)) (hv : ∀ w, (zeroValue e).run P w = .ok z w) (hz : ∀ u ∈ z.cells.toList, u.oneCell' = true) (g o c : Nat) (cur : Array Value) (hg : w.heap[g]? = some (.cells cur e (0, 0))) (hfit : o + z.cells.size ≤ cur.size) :
    (Builtin.clear_ #[t] ty #[.slice (some ⟨g, o, none⟩) 1 c]).run P w = .ok (.tuple #[]) (w.setRow g (cur.toList.take o ++ z.cells.toList ++ cur.toList.drop (o + z.cells.size)).toArray) := by
  have hzc : (Builtin.zeroCells z.cells 1).toList = z.cells.toList := by
    unfold Builtin.zeroCells
    apply List.ext_getElem
    · simp
    · intro k h1 h2
      have hk : k < z.cells.size := by simpa using h2
      simp [Nat.mod_eq_of_lt hk, hk]
  have hst := run_storeCells_at P g o e z.cells.toList 0 cur w hg (by simpa using hfit) hz
  simp only [Nat.add_zero] at hst
  simp [Builtin.clear_, run_underlying ht, hv, hzc, hst]

/-- What the two leave. -/
theorem del_list {α : Type} (c xs zs : List α) (a m s : Nat) (hx : c.take (a + m + s) = xs) (hc : a + m + s ≤ c.length) (hz : zs.length = s) :
    let nw := xs.drop (a + s)
    let A := c.take a ++ nw ++ c.drop (a + nw.length)
    let R := A.take (a + m) ++ zs ++ A.drop (a + m + s)
    nw.length = m ∧ A.length = c.length ∧ R.length = c.length ∧ R.take (a + m) = xs.take a ++ nw := by
  intro nw A R
  have hxl : xs.length = a + m + s := by rw [← hx, List.length_take, Nat.min_eq_left hc]
  have hn : nw.length = m := by show (xs.drop (a + s)).length = m; rw [List.length_drop]; omega
  have hA : A.length = c.length := by
    show (c.take a ++ nw ++ c.drop (a + nw.length)).length = _
    simp only [List.length_append, List.length_take, List.length_drop] at hn ⊢; omega
  have hAt : A.take (a + m) = c.take a ++ nw := by
    have hl : (c.take a ++ nw).length = a + m := by rw [List.length_append, List.length_take, hn]; omega
    show (c.take a ++ nw ++ c.drop (a + nw.length)).take (a + m) = _
    rw [← hl, List.take_left']
    rfl
  have hca : c.take a = xs.take a := by rw [← hx, List.take_take, Nat.min_eq_left (by omega)]
  refine ⟨hn, hA, ?_, ?_⟩
  · show (A.take (a + m) ++ zs ++ A.drop (a + m + s)).length = _
    rw [List.length_append, List.length_append, List.length_take, List.length_drop, hz, hA]; omega
  · have hl : (A.take (a + m)).length = a + m := by rw [List.length_take, hA]; omega
    show (A.take (a + m) ++ zs ++ A.drop (a + m + s)).take (a + m) = _
    rw [List.append_assoc, List.take_append_of_le_length (by omega), List.take_take, Nat.min_self, hAt, hca]

/-- What Delete of one thing gives. -/
def DelGave {α : Type} (e : TypeId) (sz : Nat) (f : α → List Value) (B g n cap : Nat) (l : List α) (w : World) (x : Ending) (w' : World) : Prop :=
  x = .returned (.slice (some ⟨g, 0, none⟩) (n - 1) cap) ∧ w'.ownsRow B e sz (.slice (some ⟨g, 0, none⟩) (n - 1) cap) l.length (cellsOf f l) ∧ Only g w w'

/-- What is behind the two, of a row that is owned. -/
theorem del_own {α : Type} {e sz : Nat} {f : α → List Value} (hf : ∀ x, (f x).length = sz) {w : World} {B g cap : Nat} {l : List α} {i : Nat} (hi : i < l.length) {cur zs : Array Value} (hB : B ≤ g) (hg : w.heap[g]? = some (.cells cur e (0, 0))) (hnc : l.length ≤ cap) (hcm : cap ≤ maxLen) (hcs : cur.size = cap * sz) (ht : cur.toList.take (l.length * sz) = cellsOf f l) (hz : zs.size = sz)
    {news : List Value} (hn : news = (cellsOf f l).drop ((i + 1) * sz)) {A R : Array Value} (hA : A = (cur.toList.take (i * sz) ++ news ++ cur.toList.drop (i * sz + news.length)).toArray)
    (hR : R = (A.toList.take ((i + (l.length - (i + 1))) * sz) ++ zs.toList ++ A.toList.drop ((i + (l.length - (i + 1))) * sz + zs.size)).toArray) (q : Nat) :
    DelGave e sz f B g l.length cap (l.eraseIdx i) w (.returned (.slice (some ⟨g, 0, none⟩) (i + (l.length - (i + 1))) cap)) ((((w.drewN q).setRow g A).setRow g R)) := by
  have hm : (i + (l.length - (i + 1))) = l.length - 1 := by omega
  have e1 : (i + (l.length - (i + 1))) * sz = i * sz + (l.length - (i + 1)) * sz := by rw [Nat.add_mul]
  have e2 : (i + 1) * sz = i * sz + sz := by rw [Nat.add_mul, Nat.one_mul]
  have e3 : l.length * sz = i * sz + (l.length - (i + 1)) * sz + sz := by
    have : l.length = i + (l.length - (i + 1)) + 1 := by omega
    conv => lhs; rw [this]
    rw [Nat.add_mul, Nat.add_mul, Nat.one_mul]
  have hcl : l.length * sz ≤ cap * sz := Nat.mul_le_mul_right _ hnc
  obtain ⟨d1, d2, d3, d4⟩ := del_list cur.toList (cellsOf f l) zs.toList (i * sz) ((l.length - (i + 1)) * sz) sz (by rw [← e3, ht]) (by simp; omega) (by simpa using hz)
  rw [← e2, ← hn] at d1 d2 d3 d4
  have hRl : R.toList = (cur.toList.take (i * sz) ++ news ++ cur.toList.drop (i * sz + news.length)).take (i * sz + (l.length - (i + 1)) * sz) ++ zs.toList ++ (cur.toList.take (i * sz) ++ news ++ cur.toList.drop (i * sz + news.length)).drop (i * sz + (l.length - (i + 1)) * sz + sz) := by
    rw [hR, hA, e1, hz]
  have hheap : (((w.drewN q).setRow g A).setRow g R).heap[g]? = some (.cells R e (0, 0)) := setRow_heap _ g _ R e _ (setRow_heap (w.drewN q) g _ A e _ hg)
  have hel : (l.eraseIdx i).length = l.length - 1 := List.length_eraseIdx_of_lt hi
  have hcell : (cellsOf f l).take (i * sz) ++ news = cellsOf f (l.eraseIdx i) := by
    rw [hn, cellsOf_take hf l i (by omega), cellsOf_drop hf l (i + 1) (by omega), ← cellsOf_append, List.eraseIdx_eq_take_drop_succ]
  refine ⟨by rw [hm], ⟨by rw [cellsOf_len hf], .inr ⟨g, cap, R, ?_, hB, hheap, ?_, hcm, ?_, ?_⟩⟩, ⟨rfl, rfl, rfl, by simp, fun c hc => ?_⟩⟩
  · rw [hel]
  · omega
  · rw [← hcs]
    have := congrArg List.length hRl
    rw [d3] at this
    simpa using this
  · rw [hel, ← hm, e1, hRl, d4, hcell]
  · exact (setRow_other _ g c R hc).trans (setRow_other (w.drewN q) g c A hc)


abbrev BgP := @Bg Ep 66 57 17 ec
abbrev BgD := @Bg Ep 53 61 17 ec
theorem A57 : (Try.prog.info? 57).map (fun i => (i.zero, i.size, i.bytes)) = some (some (.agg (ecells e0)), 17, 152) := by kernel_rfl
theorem A61 : (Try.prog.info? 61).map (fun i => (i.zero, i.size, i.bytes)) = some (some (.agg (ecells e0)), 17, 152) := by kernel_rfl

end Go.Proofs.Ytnpbbkiojoafbaa
