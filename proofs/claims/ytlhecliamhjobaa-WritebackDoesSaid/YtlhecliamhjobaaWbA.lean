/-
  Rows of entries, a buffer in memory, and what a call on one may change: in plain words.
-/
import Derived.Test.YtlhecliamhjobaaWbM
import Derived.WalkSpells
import Derived.WalkLawsBesides
import Derived.Deep.AppendLies
import Derived.Deep.QuietTactic
import Derived.BigQuiet
import Derived.Deep.RegionLaw
import Derived.Deep.MidRow
import Derived.Lib.SliceRun
import Derived.Laws.CopyRow
namespace Go.Proofs.Ytlhecliamhjobaa
open Go Go.RowKit

theorem ret_pair {a b : Int} {c d : Bool} (h : a = b) (h' : c = d) : Ending.returned (.tuple #[.int .i64 a, .bool c]) = .returned (.tuple #[.int .i64 b, .bool d]) := by rw [h, h']
theorem bbox {w w1 : World} {o : Obj} (h : Below (w.alloc o).heap.size (w.alloc o) w1) : Below w.heap.size w w1 := ((Below.refl _ _).alloc (Nat.le_refl _) _).trans (h.mono (by simp))
theorem zbox {w w1 : World} {o : Obj} (h : Below (w.alloc o).heap.size (w.alloc o) w1) : w.heap.size < w1.heap.size := by have := h.size; simp at this; omega
theorem balloc (w : World) (o : Obj) : Below w.heap.size w (w.alloc o) := (Below.refl _ _).alloc (Nat.le_refl _) _
theorem box_at {w w1 : World} {o : Obj} (h : Below (w.alloc o).heap.size (w.alloc o) w1) : w1.heap[w.heap.size]? = some o := (h.block w.heap.size (by simp)).trans (heap_alloc_new w o)
theorem ret_bool {a b : Bool} (h : a = b) : Ending.returned (.bool a) = .returned (.bool b) := by rw [h]
theorem ret_int {k : IntKind} {a b : Int} (h : a = b) : Ending.returned (.int k a) = .returned (.int k b) := by rw [h]
theorem bstep {w w1 w2 : World} (h : Below w.heap.size w w1) (h2 : Below w1.heap.size w1 w2) : Below w.heap.size w w2 := h.trans (h2.mono h.size)
theorem below_drewN {B : Nat} {w w' : World} (h : Below B w w') (n : Nat) : Below B w (w'.drewN n) := ⟨h.os, h.tape, h.output, h.size, h.block⟩
theorem below_setRow {B : Nat} {w w' : World} (h : Below B w w') {g : Nat} (hg : B ≤ g) (cs : Array Value) : Below B w (w'.setRow g cs) :=
  h.trans ⟨rfl, rfl, rfl, by simp, fun k hk => setRow_other w' g k cs (by omega)⟩
theorem blk_cell {w : World} {b : Nat} {L : Array Value} {t : TypeId} (h : w.heap[b]? = some (.cells L t (0, 0))) (i : Nat) : w.cell? ⟨b, i, none⟩ = L[i]? := by simp [World.cell?, h]
theorem blk_free {w : World} {b : Nat} {L : Array Value} {t : TypeId} (h : w.heap[b]? = some (.cells L t (0, 0))) (i : Nat) : w.frozen? ⟨b, i, none⟩ = false := by simp [World.frozen?, h]
theorem lt_of_block {w : World} {b : Nat} {o : Obj} (h : w.heap[b]? = some o) : b < w.heap.size := (Array.getElem?_eq_some_iff.1 h).1

/-- Things as cells. -/
def cellsOf {α : Type} (f : α → List Value) (l : List α) : List Value := l.flatMap f
theorem cellsOf_len {α : Type} {f : α → List Value} {sz : Nat} (hf : ∀ x, (f x).length = sz) (l : List α) : (cellsOf f l).length = l.length * sz := by
  induction l with
  | nil => simp [cellsOf]
  | cons x l ih =>
    have e : cellsOf f (x :: l) = f x ++ cellsOf f l := rfl
    rw [e, List.length_append, ih, hf, List.length_cons, Nat.add_mul, Nat.one_mul, Nat.add_comm]
theorem cellsOf_append {α : Type} (f : α → List Value) (l m : List α) : cellsOf f (l ++ m) = cellsOf f l ++ cellsOf f m := by simp [cellsOf]
theorem cellsOf_take {α : Type} {f : α → List Value} {sz : Nat} (hf : ∀ x, (f x).length = sz) (l : List α) (i : Nat) (h : i ≤ l.length) : (cellsOf f l).take (i * sz) = cellsOf f (l.take i) := by
  have e : cellsOf f l = cellsOf f (l.take i) ++ cellsOf f (l.drop i) := by rw [← cellsOf_append, List.take_append_drop]
  have hl : (cellsOf f (l.take i)).length = i * sz := by rw [cellsOf_len hf, List.length_take, Nat.min_eq_left h]
  rw [e, ← hl, List.take_left']
  rfl
theorem cellsOf_drop {α : Type} {f : α → List Value} {sz : Nat} (hf : ∀ x, (f x).length = sz) (l : List α) (i : Nat) (h : i ≤ l.length) : (cellsOf f l).drop (i * sz) = cellsOf f (l.drop i) := by
  have e : cellsOf f l = cellsOf f (l.take i) ++ cellsOf f (l.drop i) := by rw [← cellsOf_append, List.take_append_drop]
  have hl : (cellsOf f (l.take i)).length = i * sz := by rw [cellsOf_len hf, List.length_take, Nat.min_eq_left h]
  rw [e, ← hl, List.drop_left']
  rfl
theorem cellsOf_at {α : Type} {f : α → List Value} {sz : Nat} (hf : ∀ x, (f x).length = sz) (l : List α) (i j : Nat) (h : i < l.length) (hj : j < sz) : (cellsOf f l)[i * sz + j]? = (f l[i])[j]? := by
  have e : (cellsOf f l).drop (i * sz) = f l[i] ++ cellsOf f (l.drop (i + 1)) := by
    rw [cellsOf_drop hf l i (by omega), List.drop_eq_getElem_cons h]
    rfl
  rw [← List.getElem?_drop, e, List.getElem?_append_left (by rw [hf]; exact hj)]

/-- A bag in memory: its block, and the row of its things, both the call's own from block B on. -/
structure Bg {α : Type} (T e : TypeId) (sz : Nat) (f : α → List Value) (w : World) (B b : Nat) (room : Int) (l : List α) (v : Value) : Prop where
  blk : w.heap[b]? = some (.cells #[.int .i64 room, v] T (0, 0))
  row : w.ownsRow B e sz v l.length (cellsOf f l)
  off : v.ownBlock ≠ some b
  big : B ≤ b
/-- Of what was there nothing has changed but one block, and the block of one row. -/
structure Turn (b : Nat) (v : Value) (w w' : World) : Prop where
  os : w'.os = w.os
  tape : w'.tape = w.tape
  output : w'.output = w.output
  size : w.heap.size ≤ w'.heap.size
  other : ∀ k, k < w.heap.size → k ≠ b → v.ownBlock ≠ some k → w'.heap[k]? = w.heap[k]?
/-- A row's block is the one of before, or new. -/
def Fresh (w : World) (v v' : Value) : Prop := ∀ k, v'.ownBlock = some k → v.ownBlock = some k ∨ w.heap.size ≤ k
theorem Fresh.refl (w : World) (v : Value) : Fresh w v v := fun _ h => .inl h

theorem Turn.of_below {b : Nat} {v : Value} {w w' : World} (h : Below w.heap.size w w') : Turn b v w w' := ⟨h.os, h.tape, h.output, h.size, fun k hk _ _ => h.block k hk⟩
theorem Turn.trans {b : Nat} {v v' : Value} {w w1 w2 : World} (h : Turn b v w w1) (k : Turn b v' w1 w2) (hf : Fresh w v v') : Turn b v w w2 :=
  ⟨k.os.trans h.os, k.tape.trans h.tape, k.output.trans h.output, Nat.le_trans h.size k.size, fun i hi h1 h2 => (k.other i (Nat.lt_of_lt_of_le hi h.size) h1 (fun e => by rcases hf i e with e | e; exact h2 e; omega)).trans (h.other i hi h1 h2)⟩
theorem Turn.below {α : Type} {T e : TypeId} {sz : Nat} {f : α → List Value} {w w' : World} {B b : Nat} {room : Int} {l : List α} {v : Value} (h : Turn b v w w') (hb : Bg T e sz f w B b room l v) (hB : B ≤ w.heap.size) : Below B w w' :=
  ⟨h.os, h.tape, h.output, h.size, fun k hk => h.other k (by omega) (by have := hb.big; omega) (fun e => by have := hb.row.lt k e; omega)⟩

theorem Bg.lt {α : Type} {T e : TypeId} {sz : Nat} {f : α → List Value} {w : World} {B b : Nat} {room : Int} {l : List α} {v : Value} (h : Bg T e sz f w B b room l v) : b < w.heap.size := lt_of_block h.blk
theorem own_block {w w' : World} {base e sz n : Nat} {v : Value} {xs : List Value} (h : w.ownsRow base e sz v n xs) (hb : ∀ k, v.ownBlock = some k → w'.heap[k]? = w.heap[k]?) : w'.ownsRow base e sz v n xs := by
  refine ⟨h.1, ?_⟩
  rcases h.2 with hn | ⟨g, cap, cur, rfl, hb', hgg, rest⟩
  · exact .inl hn
  · exact .inr ⟨g, cap, cur, rfl, hb', (hb g rfl).trans hgg, rest⟩
theorem own_base {w : World} {base base' e sz n : Nat} {v : Value} {xs : List Value} (h : w.ownsRow base e sz v n xs) (hb : ∀ k, v.ownBlock = some k → base' ≤ k) : w.ownsRow base' e sz v n xs := by
  refine ⟨h.1, ?_⟩
  rcases h.2 with hn | ⟨g, cap, cur, rfl, hb', rest⟩
  · exact .inl hn
  · exact .inr ⟨g, cap, cur, rfl, hb g rfl, rest⟩
/-- A bag stands where neither its block nor its row's has changed. -/
theorem Bg.keep {α : Type} {T e : TypeId} {sz : Nat} {f : α → List Value} {w w' : World} {B b : Nat} {room : Int} {l : List α} {v : Value} (h : Bg T e sz f w B b room l v) (h1 : w'.heap[b]? = w.heap[b]?) (h2 : ∀ k, v.ownBlock = some k → w'.heap[k]? = w.heap[k]?) : Bg T e sz f w' B b room l v :=
  ⟨h1.trans h.blk, own_block h.row h2, h.off, h.big⟩
theorem Bg.below {α : Type} {T e : TypeId} {sz : Nat} {f : α → List Value} {w w' : World} {B b : Nat} {room : Int} {l : List α} {v : Value} (h : Bg T e sz f w B b room l v) (hb : Below w.heap.size w w') : Bg T e sz f w' B b room l v :=
  h.keep (hb.block b h.lt) fun k hk => hb.block k (h.row.lt k hk).2
theorem Bg.form {α : Type} {T e : TypeId} {sz : Nat} {f : α → List Value} {w : World} {B b : Nat} {room : Int} {l : List α} {v : Value} (h : Bg T e sz f w B b room l v) : ∃ p cap, v = .slice p l.length cap ∧ (0 < l.length → ∃ g, p = some ⟨g, 0, none⟩) := by
  rcases h.row.2 with ⟨e, h0⟩ | ⟨g, cap, cur, e, _⟩
  · exact ⟨none, 0, by rw [e, h0], fun h => by omega⟩
  · exact ⟨_, cap, e, fun _ => ⟨g, rfl⟩⟩
/-- A new bag. -/
theorem Bg.new {α : Type} {T e : TypeId} {sz : Nat} {f : α → List Value} {w : World} {B : Nat} {room : Int} (hB : B ≤ w.heap.size) : Bg T e sz f (w.alloc (.cells #[.int .i64 room, .slice none 0 0] T)) B w.heap.size room [] (.slice none 0 0) :=
  ⟨heap_alloc_new w _, World.ownsRow_nil _ _ _ _, by simp [Value.ownBlock], hB⟩

/-- What is behind a Put: the bag has one thing more. -/
def PutGave {α : Type} (T e : TypeId) (sz : Nat) (f : α → List Value) (w : World) (B b : Nat) (room : Int) (l : List α) (v : Value) (w' : World) : Prop := ∃ v', Bg T e sz f w' B b room l v' ∧ Turn b v w w' ∧ Fresh w v v'
theorem put_blk {α : Type} {T e : TypeId} {sz : Nat} {f : α → List Value} {w w1 w2 : World} {B b : Nat} {room : Int} {l : List α} {v : Value} (h : Bg T e sz f w B b room l v) (hw : Below w.heap.size w w1) (hgrow : w1.grownBy w2 v.ownBlock) : w2.heap[b]? = some (.cells #[.int .i64 room, v] T (0, 0)) :=
  (hgrow.block b (Nat.lt_of_lt_of_le h.lt hw.size) (fun e => h.off e.symm)).trans ((hw.block b h.lt).trans h.blk)
theorem put_gave {α : Type} {T e : TypeId} {sz : Nat} {f : α → List Value} {w w1 w2 : World} {B b : Nat} {room : Int} {l : List α} {x : α} {v : Value} {g cap : Nat} (h : Bg T e sz f w B b room l v) (hw : Below w.heap.size w w1)
    (hown : w2.ownsRow B e sz (.slice (some ⟨g, 0, none⟩) (l.length + 1) cap) (l.length + 1) (cellsOf f l ++ f x)) (hgrow : w1.grownBy w2 v.ownBlock) (hat : v.ownBlock = some g ∨ w.heap.size ≤ g) :
    PutGave T e sz f w B b room (l ++ [x]) v (w2.setCell ⟨b, 1, none⟩ (.slice (some ⟨g, 0, none⟩) (l.length + 1) cap)) := by
  have hbl := h.lt
  have hb2 : w2.heap[b]? = some (.cells #[.int .i64 room, v] T (0, 0)) := (hgrow.block b (Nat.lt_of_lt_of_le hbl hw.size) (fun e => h.off e.symm)).trans ((hw.block b hbl).trans h.blk)
  have hgb : g ≠ b := by
    rcases hat with hat | hat
    · exact fun e => h.off (e ▸ hat)
    · omega
  refine ⟨.slice (some ⟨g, 0, none⟩) (l.length + 1) cap, ⟨?_, ?_, ?_, h.big⟩, ?_, ?_⟩
  · rw [heap_setCell_same w2 b 1 _ _ _ hb2]
    rfl
  · have := own_block (w' := w2.setCell ⟨b, 1, none⟩ (.slice (some ⟨g, 0, none⟩) (l.length + 1) cap)) hown fun k hk => by
      simp only [Value.ownBlock, Option.some.injEq] at hk
      exact heap_setCell_other _ _ _ _ (by simp only; omega)
    rw [List.length_append, List.length_singleton, cellsOf_append]
    simpa [cellsOf] using this
  · simpa [Value.ownBlock] using hgb
  · refine ⟨?_, ?_, ?_, ?_, fun k hk h1 h2 => ?_⟩
    · exact hgrow.os.trans hw.os
    · exact hgrow.tape.trans hw.tape
    · exact hgrow.output.trans hw.output
    · have h3 := hw.size; have h4 := hgrow.size; simp [World.setCell]; omega
    · exact (heap_setCell_other _ _ _ _ h1).trans ((hgrow.block k (Nat.lt_of_lt_of_le hk hw.size) (fun e => h2 e.symm)).trans (hw.block k hk))
  · intro k hk
    simp only [Value.ownBlock, Option.some.injEq] at hk
    rcases hat with hat | hat
    · exact .inl (hk ▸ hat)
    · exact .inr (hk ▸ hat)

/-- Nothing but one block has changed. -/
structure Only (b : Nat) (w w' : World) : Prop where
  os : w'.os = w.os
  tape : w'.tape = w.tape
  output : w'.output = w.output
  size : w'.heap.size = w.heap.size
  other : ∀ c, c ≠ b → w'.heap[c]? = w.heap[c]?
/-- What a call gives that makes a row of its own. -/
def RowGave {α : Type} (e : TypeId) (sz : Nat) (f : α → List Value) (l : List α) (w : World) (x : Ending) (w' : World) : Prop := ∃ v, x = .returned v ∧ w'.ownsRow w.heap.size e sz v l.length (cellsOf f l) ∧ Below w.heap.size w w'


theorem results_cell_two {P : Program} {fn : Func} {p q : Tmp} {ty : TypeId} (h : fn.results = #[.cell p ty, .tmp q]) (tmps : Array Value) (w : World) (g : Nat) (t : TypeId) (cs : Array Value) (fr : Nat × Nat) (d : TypeDesc)
    (hp : tmps.getD p undef = .pointer (some ⟨g, 0, none⟩)) (hg : w.heap[g]? = some (.cells cs t fr))
    (hu : P.underlying ty = some d) (hd : (match d with | .struct _ | .array _ _ => true | _ => false) = true) (hi : (P.info? ty).map (·.size) = some cs.size) :
    (results fn tmps).run P w = .ok (.tuple #[.agg cs, tmps.getD q undef]) w := by
  have hp' : tmps[p]?.getD undef = .pointer (some ⟨g, 0, none⟩) := by simpa using hp
  simp [results, h, hp', asAddr, run_loadVar_row w g t ty cs fr d hg hu hd hi]

theorem new_at2 (w : World) (A B : Obj) : ((w.alloc A).alloc B).heap[w.heap.size + 1]? = some B := by
  have h1 := heap_alloc_new (w.alloc A) B
  have e1 : (w.alloc A).heap.size = w.heap.size + 1 := by simp
  rwa [e1] at h1
theorem new_at1 (w : World) (A B : Obj) : ((w.alloc A).alloc B).heap[w.heap.size]? = some A := by
  rw [Below.heap_alloc _ _ _ (by simp)]
  exact heap_alloc_new w A


theorem mc_one (x : En) : ∀ u ∈ mc x, u.oneCell' = true := by
  intro u hu
  simp [mc] at hu
  rcases hu with rfl | rfl | rfl | rfl | rfl | rfl | rfl | rfl | rfl | rfl <;> rfl
theorem mcs_one (l : List En) : ∀ u ∈ cellsOf mc l, u.oneCell' = true := by
  intro u hu
  obtain ⟨m, _, hm⟩ := List.mem_flatMap.1 hu
  exact mc_one m u hm
theorem heap_drew (w : World) : w.drew.heap = w.heap := rfl

/-- Where a slice's entries lie. -/
def EnIn (w : World) (p : Option Addr) (l : List En) : Prop := ∀ i x, l[i]? = some x → ∃ g, p = some ⟨g, 0, none⟩ ∧ g < w.heap.size ∧ w.rangeAt g (i * 10) (mc x)
theorem EnIn.step {w w' : World} {p : Option Addr} {l : List En} (h : EnIn w p l) (hb : Below w.heap.size w w') : EnIn w' p l := fun i x hx => by
  obtain ⟨g, e, hg, hr⟩ := h i x hx
  exact ⟨g, e, Nat.lt_of_lt_of_le hg hb.size, fun j v hv => (hb.cell (p := ⟨g, i * 10 + j, none⟩) hg).trans (hr j v hv)⟩
theorem own_ins {w : World} {B e : Nat} {v : Value} {l : List En} (h : w.ownsRow B e 10 v l.length (cellsOf mc l)) : ∃ p cap, v = .slice p l.length cap ∧ EnIn w p l := by
  rcases h.2 with ⟨rfl, h0⟩ | ⟨g, cap, cur, rfl, hb, hg, rest⟩
  · exact ⟨none, 0, by rw [h0], fun i x hx => by have := (List.getElem?_eq_some_iff.1 hx).1; omega⟩
  · refine ⟨_, cap, rfl, fun i x hx => ⟨g, rfl, lt_of_block hg, fun j u hu => ?_⟩⟩
    obtain ⟨hi, rfl⟩ := List.getElem?_eq_some_iff.1 hx
    have hj : j < 10 := by
      have := (List.getElem?_eq_some_iff.1 hu).1
      rwa [mc_len] at this
    have := h.cells (g := g) rfl (i * 10 + j) u (by rw [cellsOf_at mc_len l i j hi hj]; exact hu)
    rwa [Addr.add_lit, Nat.zero_add] at this
theorem Bg.ins {T e : TypeId} {w : World} {B b : Nat} {room : Int} {l : List En} {v : Value} (h : Bg T e 10 mc w B b room l v) : ∃ p cap, v = .slice p l.length cap ∧ EnIn w p l := own_ins h.row
/-- Where one entry lies. -/
theorem Bg.one {T e : TypeId} {w : World} {B b : Nat} {room : Int} {l : List En} {v : Value} (h : Bg T e 10 mc w B b room l v) {i : Nat} {x : En} (hx : l[i]? = some x) :
    ∃ g cap, v = .slice (some ⟨g, 0, none⟩) l.length cap ∧ b ≠ g ∧ g < w.heap.size ∧ B ≤ g ∧ w.rangeAt g (i * 10) (mc x) ∧ (∀ o, w.frozen? ⟨g, o, none⟩ = false) ∧ l.length ≤ cap ∧ cap ≤ maxLen := by
  have hi := (List.getElem?_eq_some_iff.1 hx).1
  obtain ⟨p, cap, e0, hin⟩ := h.ins
  obtain ⟨g, rfl, hg, hr⟩ := hin i x hx
  subst e0
  rcases h.row.2 with ⟨e0, h0⟩ | ⟨g', cap', cur, e0, hB, hgg, h1, h2, _⟩
  · cases e0
  · obtain ⟨rfl, rfl⟩ : g = g' ∧ cap = cap' := by simpa using e0
    exact ⟨g, cap, rfl, fun e => h.off (by rw [e]; rfl), hg, hB, hr, fun o => blk_free hgg o, h1, h2⟩

/-- Cells of a block that is known whole are set anew. -/
theorem heap_setCells_row (g : Nat) (t : TypeId) : ∀ (vs : List Value) (o : Nat) (cur : Array Value) (w : World), w.heap[g]? = some (.cells cur t (0, 0)) → o + vs.length ≤ cur.size →
    (w.setCells g o vs).heap[g]? = some (.cells (cur.toList.take o ++ vs ++ cur.toList.drop (o + vs.length)).toArray t (0, 0))
  | [], o, cur, w, hg, _ => by simpa [World.setCells] using hg
  | v :: r, o, cur, w, hg, hl => by
    have ih := heap_setCells_row g t r (o + 1) (cur.setIfInBounds o v) (w.setCell ⟨g, o, none⟩ v) (by rw [heap_setCell_same w g o _ _ _ hg]) (by simp at hl ⊢; omega)
    rw [World.setCells, ih]
    congr 3
    have e := list_seg_step cur.toList o v r (by simp at hl ⊢; omega)
    simpa [Array.toList_setIfInBounds, Nat.add_assoc, Nat.add_comm] using e
theorem heap_setCells_other (b : Nat) : ∀ (vs : List Value) (o : Nat) (w : World) (k : Nat), k ≠ b → (w.setCells b o vs).heap[k]? = w.heap[k]?
  | [], _, _, _, _ => rfl
  | v :: r, o, w, k, h => by rw [World.setCells, heap_setCells_other b r (o + 1) _ k h, heap_setCell_other _ _ _ _ h]
theorem setCells_rest (b : Nat) : ∀ (vs : List Value) (o : Nat) (w : World), (w.setCells b o vs).os = w.os ∧ (w.setCells b o vs).tape = w.tape ∧ (w.setCells b o vs).output = w.output ∧ (w.setCells b o vs).heap.size = w.heap.size
  | [], _, _ => ⟨rfl, rfl, rfl, rfl⟩
  | v :: r, o, w => by
    obtain ⟨h1, h2, h3, h4⟩ := setCells_rest b r (o + 1) (w.setCell ⟨b, o, none⟩ v)
    rw [World.setCells]
    exact ⟨h1, h2, h3, by rw [h4]; simp⟩
/-- What it makes of a row's cells. -/
theorem cells_set {l : List En} {i : Nat} {x y : En} (hx : l[i]? = some x) (j : Nat) (vs : List Value) (hj : j + vs.length ≤ 10) (hin : ∀ m, m < vs.length → (mc y)[j + m]? = vs[m]?) (hout : ∀ m, m < 10 → m < j ∨ j + vs.length ≤ m → (mc y)[m]? = (mc x)[m]?) :
    (cellsOf mc l).take (i * 10 + j) ++ vs ++ (cellsOf mc l).drop (i * 10 + j + vs.length) = cellsOf mc (l.set i y) := by
  obtain ⟨hi, rfl⟩ := List.getElem?_eq_some_iff.1 hx
  have hL := cellsOf_len mc_len l
  have hsplit : cellsOf mc l = cellsOf mc (l.take i) ++ (mc l[i] ++ cellsOf mc (l.drop (i + 1))) := by
    conv => lhs; rw [← List.take_append_drop i l, cellsOf_append, List.drop_eq_getElem_cons hi]
    rfl
  have hset : cellsOf mc (l.set i y) = cellsOf mc (l.take i) ++ (mc y ++ cellsOf mc (l.drop (i + 1))) := by
    rw [List.set_eq_take_append_cons_drop, if_pos hi, cellsOf_append]
    rfl
  have hA : (cellsOf mc (l.take i)).length = i * 10 := by rw [cellsOf_len mc_len, List.length_take, Nat.min_eq_left (by omega)]
  have hy : mc y = (mc l[i]).take j ++ vs ++ (mc l[i]).drop (j + vs.length) := by
    refine List.ext_getElem? fun m => ?_
    by_cases h15 : m < 10
    · by_cases h1 : m < j
      · rw [hout m h15 (.inl h1), List.append_assoc, List.getElem?_append_left (by rw [List.length_take, mc_len]; omega), List.getElem?_take, if_pos h1]
      · by_cases h2 : m < j + vs.length
        · rw [List.append_assoc, List.getElem?_append_right (by rw [List.length_take, mc_len]; omega), List.getElem?_append_left (by rw [List.length_take, mc_len]; omega)]
          have := hin (m - j) (by omega)
          rw [show j + (m - j) = m by omega] at this
          rw [this, List.length_take, mc_len, Nat.min_eq_left (by omega)]
        · rw [hout m h15 (.inr (by omega)), List.getElem?_append_right (by rw [List.length_append, List.length_take, mc_len]; omega), List.getElem?_drop, List.length_append, List.length_take, mc_len, Nat.min_eq_left (by omega)]
          congr 1; omega
    · rw [List.getElem?_eq_none (by rw [mc_len]; omega), List.getElem?_eq_none (by rw [List.length_append, List.length_append, List.length_take, List.length_drop, mc_len]; omega)]
  rw [hset, hy, hsplit]
  have e1 : (cellsOf mc (l.take i) ++ (mc l[i] ++ cellsOf mc (l.drop (i + 1)))).take (i * 10 + j) = cellsOf mc (l.take i) ++ (mc l[i]).take j := by
    rw [← hA, List.take_length_add_append, List.take_append_of_le_length (by rw [mc_len]; omega)]
  have e2 : (cellsOf mc (l.take i) ++ (mc l[i] ++ cellsOf mc (l.drop (i + 1)))).drop (i * 10 + j + vs.length) = (mc l[i]).drop (j + vs.length) ++ cellsOf mc (l.drop (i + 1)) := by
    rw [← hA, Nat.add_assoc, List.drop_length_add_append, List.drop_append_of_le_length (by rw [mc_len]; omega)]
  rw [e1, e2]
  simp only [List.append_assoc]
/-- Some cells of a miss are set anew. -/
theorem Bg.store {T e : TypeId} {w : World} {B b : Nat} {room : Int} {l : List En} {g cap : Nat} (h : Bg T e 10 mc w B b room l (.slice (some ⟨g, 0, none⟩) l.length cap)) {i : Nat} {x : En} (hx : l[i]? = some x) (y : En) (j : Nat) (vs : List Value) (hj : j + vs.length ≤ 10)
    (hin : ∀ m, m < vs.length → (mc y)[j + m]? = vs[m]?) (hout : ∀ m, m < 10 → m < j ∨ j + vs.length ≤ m → (mc y)[m]? = (mc x)[m]?) : Bg T e 10 mc (w.setCells g (i * 10 + j) vs) B b room (l.set i y) (.slice (some ⟨g, 0, none⟩) l.length cap) := by
  have hi := (List.getElem?_eq_some_iff.1 hx).1
  have hgb : b ≠ g := fun e => h.off (by rw [e]; rfl)
  obtain ⟨hlen, hh⟩ := h.row
  rcases hh with ⟨e0, h0⟩ | ⟨g', cap', cur, e0, hB, hgg, h1, h2, h3, h4⟩
  · cases e0
  · obtain ⟨rfl, rfl⟩ : g = g' ∧ cap = cap' := by simpa using e0
    have hfit : l.length * 10 ≤ cap * 10 := Nat.mul_le_mul_right _ h1
    have hi15 : (i + 1) * 10 ≤ l.length * 10 := Nat.mul_le_mul_right _ hi
    rw [Nat.add_mul] at hi15
    have hst := heap_setCells_row g e vs (i * 10 + j) cur w hgg (by omega)
    refine ⟨(heap_setCells_other g vs _ w b hgb).trans h.blk, ?_, h.off, h.big⟩
    rw [List.length_set]
    refine ⟨by rw [cellsOf_len mc_len, List.length_set], .inr ⟨g, cap, _, rfl, hB, hst, h1, h2, ?_, ?_⟩⟩
    · simp only [List.size_toArray, List.length_append, List.length_take, List.length_drop, Array.length_toList]
      omega
    · rw [List.toList_toArray]
      have e5 : cur.toList.drop (i * 10 + j + vs.length) = (cellsOf mc l).drop (i * 10 + j + vs.length) ++ cur.toList.drop (l.length * 10) := by
        have : cur.toList = cellsOf mc l ++ cur.toList.drop (l.length * 10) := by rw [← h4, List.take_append_drop]
        conv => lhs; rw [this]
        rw [List.drop_append_of_le_length (by rw [hlen]; omega)]
      have e6 : cur.toList.take (i * 10 + j) = (cellsOf mc l).take (i * 10 + j) := by
        rw [← h4, List.take_take, Nat.min_eq_left (by omega)]
      rw [e5, e6, ← List.append_assoc, cells_set hx j vs hj hin hout]
      have : (cellsOf mc (l.set i y)).length = l.length * 10 := by rw [cellsOf_len mc_len, List.length_set]
      rw [← this, List.take_left']
      rfl
theorem turn_setCells {b g n cap : Nat} (o : Nat) (vs : List Value) (w : World) : Turn b (.slice (some ⟨g, 0, none⟩) n cap) w (w.setCells g o vs) := by
  obtain ⟨h1, h2, h3, h4⟩ := setCells_rest g vs o w
  exact ⟨h1, h2, h3, by omega, fun k _ _ hne => heap_setCells_other g vs o w k (fun e => hne (by rw [e]; rfl))⟩
theorem gave_same {T e : TypeId} {w w' : World} {B b : Nat} {room : Int} {l : List En} {v : Value} (h : Bg T e 10 mc w B b room l v) (hb : Below w.heap.size w w') : PutGave T e 10 mc w B b room l v w' := ⟨v, h.below hb, .of_below hb, Fresh.refl _ _⟩
theorem gave_store {T e : TypeId} {w w1 : World} {B b : Nat} {room : Int} {l : List En} {g cap : Nat} (h : Bg T e 10 mc w B b room l (.slice (some ⟨g, 0, none⟩) l.length cap)) (hb : Below w.heap.size w w1) {i : Nat} {x : En} (hx : l[i]? = some x) (y : En) (j : Nat) (vs : List Value) (hj : j + vs.length ≤ 10)
    (hin : ∀ m, m < vs.length → (mc y)[j + m]? = vs[m]?) (hout : ∀ m, m < 10 → m < j ∨ j + vs.length ≤ m → (mc y)[m]? = (mc x)[m]?) : PutGave T e 10 mc w B b room (l.set i y) (.slice (some ⟨g, 0, none⟩) l.length cap) (w1.setCells g (i * 10 + j) vs) := by
  refine ⟨_, (h.below hb).store hx y j vs hj hin hout, ?_, Fresh.refl _ _⟩
  have ht := turn_setCells (b := b) (g := g) (n := l.length) (cap := cap) (i * 10 + j) vs w1
  exact (Turn.of_below hb).trans ht (Fresh.refl _ _)

abbrev BgP := @Bg En 57 48 10 mc
abbrev BgD := @Bg En 44 47 10 mc
theorem A34 : (Try.prog.info? 48).map (fun i => (i.zero, i.size, i.bytes)) = some (some (.agg (mcells m0)), 10, 80) := by kernel_rfl
theorem A39 : (Try.prog.info? 47).map (fun i => (i.zero, i.size, i.bytes)) = some (some (.agg (mcells m0)), 10, 80) := by kernel_rfl

end Go.Proofs.Ytlhecliamhjobaa
