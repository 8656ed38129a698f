/-
  Rows of things, a bag in memory, and what a call on one may change: in plain words (as BgA to BgC have it, without the bag of numbers).
-/
import Derived.Test.YtdggjbaapnkcgaaMsA
import Derived.Deep.AppendLies
import Derived.Deep.RegionLaw
import Derived.Deep.MidRow
import Derived.Lib.SliceRun
namespace Go.Proofs.Ytdggjbaapnkcgaa
open Go Go.RowKit

theorem below_setRow {B : Nat} {w w' : World} (h : Below B w w') {g : Nat} (hg : B ≤ g) (cs : Array Value) : Below B w (w'.setRow g cs) :=
  h.trans ⟨rfl, rfl, rfl, by simp, fun k hk => setRow_other w' g k cs (by omega)⟩
theorem blk_cell {w : World} {b : Nat} {L : Array Value} {t : TypeId} (h : w.heap[b]? = some (.cells L t (0, 0))) (i : Nat) : w.cell? ⟨b, i, none⟩ = L[i]? := by simp [World.cell?, h]
theorem blk_free {w : World} {b : Nat} {L : Array Value} {t : TypeId} (h : w.heap[b]? = some (.cells L t (0, 0))) (i : Nat) : w.frozen? ⟨b, i, none⟩ = false := by simp [World.frozen?, h]
theorem lt_of_block {w : World} {b : Nat} {o : Obj} (h : w.heap[b]? = some o) : b < w.heap.size := (Array.getElem?_eq_some_iff.1 h).1

/-- Things as cells. -/
def cellsOf {α : Type} (f : α → List Value) (l : List α) : List Value := l.flatMap f
theorem cellsOf_len {α : Type} {f : α → List Value} {sz : Nat} (hf : ∀ x, (f x).length = sz) (l : List α) : (cellsOf f l).length = l.length * sz := by
  induction l with
  | nil => simp [cellsOf]
  | cons x l ih =>
    have e : cellsOf f (x :: l) = f x ++ cellsOf f l := rfl
    rw [e, List.length_append, ih, hf, List.length_cons, Nat.add_mul, Nat.one_mul, Nat.add_comm]
theorem cellsOf_append {α : Type} (f : α → List Value) (l m : List α) : cellsOf f (l ++ m) = cellsOf f l ++ cellsOf f m := by simp [cellsOf]
theorem cellsOf_take {α : Type} {f : α → List Value} {sz : Nat} (hf : ∀ x, (f x).length = sz) (l : List α) (i : Nat) (h : i ≤ l.length) : (cellsOf f l).take (i * sz) = cellsOf f (l.take i) := by
  have e : cellsOf f l = cellsOf f (l.take i) ++ cellsOf f (l.drop i) := by rw [← cellsOf_append, List.take_append_drop]
  have hl : (cellsOf f (l.take i)).length = i * sz := by rw [cellsOf_len hf, List.length_take, Nat.min_eq_left h]
  rw [e, ← hl, List.take_left']
  rfl
theorem cellsOf_drop {α : Type} {f : α → List Value} {sz : Nat} (hf : ∀ x, (f x).length = sz) (l : List α) (i : Nat) (h : i ≤ l.length) : (cellsOf f l).drop (i * sz) = cellsOf f (l.drop i) := by
  have e : cellsOf f l = cellsOf f (l.take i) ++ cellsOf f (l.drop i) := by rw [← cellsOf_append, List.take_append_drop]
  have hl : (cellsOf f (l.take i)).length = i * sz := by rw [cellsOf_len hf, List.length_take, Nat.min_eq_left h]
  rw [e, ← hl, List.drop_left']
  rfl
theorem cellsOf_at {α : Type} {f : α → List Value} {sz : Nat} (hf : ∀ x, (f x).length = sz) (l : List α) (i j : Nat) (h : i < l.length) (hj : j < sz) : (cellsOf f l)[i * sz + j]? = (f l[i])[j]? := by
  have e : (cellsOf f l).drop (i * sz) = f l[i] ++ cellsOf f (l.drop (i + 1)) := by
    rw [cellsOf_drop hf l i (by omega), List.drop_eq_getElem_cons h]
    rfl
  rw [← List.getElem?_drop, e, List.getElem?_append_left (by rw [hf]; exact hj)]

/-- A bag in memory: its block, and the row of its things, both the call's own from block B on. -/
structure Bg {α : Type} (T e : TypeId) (sz : Nat) (f : α → List Value) (w : World) (B b : Nat) (room : Int) (l : List α) (v : Value) : Prop where
  blk : w.heap[b]? = some (.cells #[.int .i64 room, v] T (0, 0))
  row : w.ownsRow B e sz v l.length (cellsOf f l)
  off : v.ownBlock ≠ some b
  big : B ≤ b
/-- Of what was there nothing has changed but one block, and the block of one row. -/
structure Turn (b : Nat) (v : Value) (w w' : World) : Prop where
  os : w'.os = w.os
  tape : w'.tape = w.tape
  output : w'.output = w.output
  size : w.heap.size ≤ w'.heap.size
  other : ∀ k, k < w.heap.size → k ≠ b → v.ownBlock ≠ some k → w'.heap[k]? = w.heap[k]?
/-- A row's block is the one of before, or new. -/
def Fresh (w : World) (v v' : Value) : Prop := ∀ k, v'.ownBlock = some k → v.ownBlock = some k ∨ w.heap.size ≤ k
theorem Fresh.refl (w : World) (v : Value) : Fresh w v v := fun _ h => .inl h

theorem Turn.of_below {b : Nat} {v : Value} {w w' : World} (h : Below w.heap.size w w') : Turn b v w w' := ⟨h.os, h.tape, h.output, h.size, fun k hk _ _ => h.block k hk⟩
theorem Turn.trans {b : Nat} {v v' : Value} {w w1 w2 : World} (h : Turn b v w w1) (k : Turn b v' w1 w2) (hf : Fresh w v v') : Turn b v w w2 :=
  ⟨k.os.trans h.os, k.tape.trans h.tape, k.output.trans h.output, Nat.le_trans h.size k.size, fun i hi h1 h2 => (k.other i (Nat.lt_of_lt_of_le hi h.size) h1 (fun e => by rcases hf i e with e | e; exact h2 e; omega)).trans (h.other i hi h1 h2)⟩
theorem Turn.below {α : Type} {T e : TypeId} {sz : Nat} {f : α → List Value} {w w' : World} {B b : Nat} {room : Int} {l : List α} {v : Value} (h : Turn b v w w') (hb : Bg T e sz f w B b room l v) (hB : B ≤ w.heap.size) : Below B w w' :=
  ⟨h.os, h.tape, h.output, h.size, fun k hk => h.other k (by omega) (by have := hb.big; omega) (fun e => by have := hb.row.lt k e; omega)⟩

theorem Bg.lt {α : Type} {T e : TypeId} {sz : Nat} {f : α → List Value} {w : World} {B b : Nat} {room : Int} {l : List α} {v : Value} (h : Bg T e sz f w B b room l v) : b < w.heap.size := lt_of_block h.blk
theorem own_block {w w' : World} {base e sz n : Nat} {v : Value} {xs : List Value} (h : w.ownsRow base e sz v n xs) (hb : ∀ k, v.ownBlock = some k → w'.heap[k]? = w.heap[k]?) : w'.ownsRow base e sz v n xs := by
  refine ⟨h.1, ?_⟩
  rcases h.2 with hn | ⟨g, cap, cur, rfl, hb', hgg, rest⟩
  · exact .inl hn
  · exact .inr ⟨g, cap, cur, rfl, hb', (hb g rfl).trans hgg, rest⟩
theorem own_base {w : World} {base base' e sz n : Nat} {v : Value} {xs : List Value} (h : w.ownsRow base e sz v n xs) (hb : ∀ k, v.ownBlock = some k → base' ≤ k) : w.ownsRow base' e sz v n xs := by
  refine ⟨h.1, ?_⟩
  rcases h.2 with hn | ⟨g, cap, cur, rfl, hb', rest⟩
  · exact .inl hn
  · exact .inr ⟨g, cap, cur, rfl, hb g rfl, rest⟩
/-- A bag stands where neither its block nor its row's has changed. -/
theorem Bg.keep {α : Type} {T e : TypeId} {sz : Nat} {f : α → List Value} {w w' : World} {B b : Nat} {room : Int} {l : List α} {v : Value} (h : Bg T e sz f w B b room l v) (h1 : w'.heap[b]? = w.heap[b]?) (h2 : ∀ k, v.ownBlock = some k → w'.heap[k]? = w.heap[k]?) : Bg T e sz f w' B b room l v :=
  ⟨h1.trans h.blk, own_block h.row h2, h.off, h.big⟩
theorem Bg.below {α : Type} {T e : TypeId} {sz : Nat} {f : α → List Value} {w w' : World} {B b : Nat} {room : Int} {l : List α} {v : Value} (h : Bg T e sz f w B b room l v) (hb : Below w.heap.size w w') : Bg T e sz f w' B b room l v :=
  h.keep (hb.block b h.lt) fun k hk => hb.block k (h.row.lt k hk).2
theorem Bg.form {α : Type} {T e : TypeId} {sz : Nat} {f : α → List Value} {w : World} {B b : Nat} {room : Int} {l : List α} {v : Value} (h : Bg T e sz f w B b room l v) : ∃ p cap, v = .slice p l.length cap ∧ (0 < l.length → ∃ g, p = some ⟨g, 0, none⟩) := by
  rcases h.row.2 with ⟨e, h0⟩ | ⟨g, cap, cur, e, _⟩
  · exact ⟨none, 0, by rw [e, h0], fun h => by omega⟩
  · exact ⟨_, cap, e, fun _ => ⟨g, rfl⟩⟩
/-- A new bag. -/
theorem Bg.new {α : Type} {T e : TypeId} {sz : Nat} {f : α → List Value} {w : World} {B : Nat} {room : Int} (hB : B ≤ w.heap.size) : Bg T e sz f (w.alloc (.cells #[.int .i64 room, .slice none 0 0] T)) B w.heap.size room [] (.slice none 0 0) :=
  ⟨heap_alloc_new w _, World.ownsRow_nil _ _ _ _, by simp [Value.ownBlock], hB⟩

/-- What is behind a Put: the bag has one thing more. -/
def PutGave {α : Type} (T e : TypeId) (sz : Nat) (f : α → List Value) (w : World) (B b : Nat) (room : Int) (l : List α) (v : Value) (w' : World) : Prop := ∃ v', Bg T e sz f w' B b room l v' ∧ Turn b v w w' ∧ Fresh w v v'
theorem put_blk {α : Type} {T e : TypeId} {sz : Nat} {f : α → List Value} {w w1 w2 : World} {B b : Nat} {room : Int} {l : List α} {v : Value} (h : Bg T e sz f w B b room l v) (hw : Below w.heap.size w w1) (hgrow : w1.grownBy w2 v.ownBlock) : w2.heap[b]? = some (.cells #[.int .i64 room, v] T (0, 0)) :=
  (hgrow.block b (Nat.lt_of_lt_of_le h.lt hw.size) (fun e => h.off e.symm)).trans ((hw.block b h.lt).trans h.blk)
theorem put_gave {α : Type} {T e : TypeId} {sz : Nat} {f : α → List Value} {w w1 w2 : World} {B b : Nat} {room : Int} {l : List α} {x : α} {v : Value} {g cap : Nat} (h : Bg T e sz f w B b room l v) (hw : Below w.heap.size w w1)
    (hown : w2.ownsRow B e sz (.slice (some ⟨g, 0, none⟩) (l.length + 1) cap) (l.length + 1) (cellsOf f l ++ f x)) (hgrow : w1.grownBy w2 v.ownBlock) (hat : v.ownBlock = some g ∨ w.heap.size ≤ g) :
    PutGave T e sz f w B b room (l ++ [x]) v (w2.setCell ⟨b, 1, none⟩ (.slice (some ⟨g, 0, none⟩) (l.length + 1) cap)) := by
  have hbl := h.lt
  have hb2 : w2.heap[b]? = some (.cells #[.int .i64 room, v] T (0, 0)) := (hgrow.block b (Nat.lt_of_lt_of_le hbl hw.size) (fun e => h.off e.symm)).trans ((hw.block b hbl).trans h.blk)
  have hgb : g ≠ b := by
    rcases hat with hat | hat
    · exact fun e => h.off (e ▸ hat)
    · omega
  refine ⟨.slice (some ⟨g, 0, none⟩) (l.length + 1) cap, ⟨?_, ?_, ?_, h.big⟩, ?_, ?_⟩
  · rw [heap_setCell_same w2 b 1 _ _ _ hb2]
    rfl
  · have := own_block (w' := w2.setCell ⟨b, 1, none⟩ (.slice (some ⟨g, 0, none⟩) (l.length + 1) cap)) hown fun k hk => by
      simp only [Value.ownBlock, Option.some.injEq] at hk
      exact heap_setCell_other _ _ _ _ (by simp only; omega)
    rw [List.length_append, List.length_singleton, cellsOf_append]
    simpa [cellsOf] using this
  · simpa [Value.ownBlock] using hgb
  · refine ⟨?_, ?_, ?_, ?_, fun k hk h1 h2 => ?_⟩
    · exact hgrow.os.trans hw.os
    · exact hgrow.tape.trans hw.tape
    · exact hgrow.output.trans hw.output
    · have h3 := hw.size; have h4 := hgrow.size; simp [World.setCell]; omega
    · exact (heap_setCell_other _ _ _ _ h1).trans ((hgrow.block k (Nat.lt_of_lt_of_le hk hw.size) (fun e => h2 e.symm)).trans (hw.block k hk))
  · intro k hk
    simp only [Value.ownBlock, Option.some.injEq] at hk
    rcases hat with hat | hat
    · exact .inl (hk ▸ hat)
    · exact .inr (hk ▸ hat)

/-- append in place, at a step of a region that draws its order: the row is known whole. -/
theorem step_append_row {P : Program} {ops : Array Oper} {o : Oper} {a : Act} {w : World} {K : Act → World → Prop} {Q : Exit → Act → World → Prop} {E : Prop}
    (hg : o.guard = none) (s x : Operand) (t : TypeId) (hop : o.op = Op.call { callee := Callee.builtin Builtin.append, args := #[s, x], argTypes := #[t, t] })
    (e : TypeId) (i : TypeInfo) (size : Nat) (h1 : P.underlying t = some (.slice e)) (h2 : P.info? e = some i) (h4 : i.size = size)
    (b n cap : Nat) (cur : Array Value) (hb : w.heap[b]? = some (.cells cur e (0, 0))) (hs : a.eval s = .slice (some ⟨b, 0, none⟩) n cap)
    (ad : Addr) (m c : Nat) (news : List Value) (hx : a.eval x = .slice (some ad) m c) (hn : news.length = m * size) (hc : ∀ j u, news[j]? = some u → w.cell? (ad.add j) = some u) (h1c : ∀ u ∈ news, u.oneCell' = true)
    (hroom : n + m ≤ cap) (hfit : n * size + news.length ≤ cur.size)
    (hK : K (a.put o.dst (.slice (some ⟨b, 0, none⟩) (n + m) cap)) (w.setRow b (cur.toList.take (n * size) ++ news ++ cur.toList.drop (n * size + news.length)).toArray)) :
    if Region.wanted o (yielded ops a.tmps) = true then Oper.wp P o a w K Q else E := by
  have hw : Region.wanted o (yielded ops a.tmps) = true := by simp [Region.wanted, hg]
  rw [if_pos hw]
  subst h4
  have hrun := run_append_room (P := P) w t o.type e i h1 h2 b n cap cur hb ad m c news hn hc h1c hroom hfit
  unfold Oper.wp
  simp [execOp, hop, resolve, invoke, builtin, hs, hx, hrun, Result.andThen]
  rw [List.append_assoc] at hK
  exact hK

/-- 'clear' of one element of a row that is known whole. -/
theorem run_clear_row {P : Program} (w : World) (t e ty : TypeId) (z : Value) (ht : P.underlying t = some (.slice e)) (hv : ∀ w, (zeroValue e).run P w = .ok z w) (hz : ∀ u ∈ z.cells.toList, u.oneCell' = true) (g o c : Nat) (cur : Array Value) (hg : w.heap[g]? = some (.cells cur e (0, 0))) (hfit : o + z.cells.size ≤ cur.size) :
    (Builtin.clear_ #[t] ty #[.slice (some ⟨g, o, none⟩) 1 c]).run P w = .ok (.tuple #[]) (w.setRow g (cur.toList.take o ++ z.cells.toList ++ cur.toList.drop (o + z.cells.size)).toArray) := by
  have hzc : (Builtin.zeroCells z.cells 1).toList = z.cells.toList := by
    unfold Builtin.zeroCells
    apply List.ext_getElem
    · simp
    · intro k h1 h2
      have hk : k < z.cells.size := by simpa using h2
      simp [Nat.mod_eq_of_lt hk, hk]
  have hst := run_storeCells_at P g o e z.cells.toList 0 cur w hg (by simpa using hfit) hz
  simp only [Nat.add_zero] at hst
  simp [Builtin.clear_, run_underlying ht, hv, hzc, hst]

/-- What the two leave. -/
theorem del_list {α : Type} (c xs zs : List α) (a m s : Nat) (hx : c.take (a + m + s) = xs) (hc : a + m + s ≤ c.length) (hz : zs.length = s) :
    let nw := xs.drop (a + s)
    let A := c.take a ++ nw ++ c.drop (a + nw.length)
    let R := A.take (a + m) ++ zs ++ A.drop (a + m + s)
    nw.length = m ∧ A.length = c.length ∧ R.length = c.length ∧ R.take (a + m) = xs.take a ++ nw := by
  intro nw A R
  have hxl : xs.length = a + m + s := by rw [← hx, List.length_take, Nat.min_eq_left hc]
  have hn : nw.length = m := by show (xs.drop (a + s)).length = m; rw [List.length_drop]; omega
  have hA : A.length = c.length := by
    show (c.take a ++ nw ++ c.drop (a + nw.length)).length = _
    simp only [List.length_append, List.length_take, List.length_drop] at hn ⊢; omega
  have hAt : A.take (a + m) = c.take a ++ nw := by
    have hl : (c.take a ++ nw).length = a + m := by rw [List.length_append, List.length_take, hn]; omega
    show (c.take a ++ nw ++ c.drop (a + nw.length)).take (a + m) = _
    rw [← hl, List.take_left']
    rfl
  have hca : c.take a = xs.take a := by rw [← hx, List.take_take, Nat.min_eq_left (by omega)]
  refine ⟨hn, hA, ?_, ?_⟩
  · show (A.take (a + m) ++ zs ++ A.drop (a + m + s)).length = _
    rw [List.length_append, List.length_append, List.length_take, List.length_drop, hz, hA]; omega
  · have hl : (A.take (a + m)).length = a + m := by rw [List.length_take, hA]; omega
    show (A.take (a + m) ++ zs ++ A.drop (a + m + s)).take (a + m) = _
    rw [List.append_assoc, List.take_append_of_le_length (by omega), List.take_take, Nat.min_self, hAt, hca]

/-- Nothing but one block has changed. -/
structure Only (b : Nat) (w w' : World) : Prop where
  os : w'.os = w.os
  tape : w'.tape = w.tape
  output : w'.output = w.output
  size : w'.heap.size = w.heap.size
  other : ∀ c, c ≠ b → w'.heap[c]? = w.heap[c]?
/-- What Delete of one thing gives. -/
def DelGave {α : Type} (e : TypeId) (sz : Nat) (f : α → List Value) (B g n cap : Nat) (l : List α) (w : World) (x : Ending) (w' : World) : Prop :=
  x = .returned (.slice (some ⟨g, 0, none⟩) (n - 1) cap) ∧ w'.ownsRow B e sz (.slice (some ⟨g, 0, none⟩) (n - 1) cap) l.length (cellsOf f l) ∧ Only g w w'

/-- What is behind the two, of a row that is owned. -/
theorem del_own {α : Type} {e sz : Nat} {f : α → List Value} (hf : ∀ x, (f x).length = sz) {w : World} {B g cap : Nat} {l : List α} {i : Nat} (hi : i < l.length) {cur zs : Array Value} (hB : B ≤ g) (hg : w.heap[g]? = some (.cells cur e (0, 0))) (hnc : l.length ≤ cap) (hcm : cap ≤ maxLen) (hcs : cur.size = cap * sz) (ht : cur.toList.take (l.length * sz) = cellsOf f l) (hz : zs.size = sz)
    {news : List Value} (hn : news = (cellsOf f l).drop ((i + 1) * sz)) {A R : Array Value} (hA : A = (cur.toList.take (i * sz) ++ news ++ cur.toList.drop (i * sz + news.length)).toArray)
    (hR : R = (A.toList.take ((i + (l.length - (i + 1))) * sz) ++ zs.toList ++ A.toList.drop ((i + (l.length - (i + 1))) * sz + zs.size)).toArray) (q : Nat) :
    DelGave e sz f B g l.length cap (l.eraseIdx i) w (.returned (.slice (some ⟨g, 0, none⟩) (i + (l.length - (i + 1))) cap)) ((((w.drewN q).setRow g A).setRow g R)) := by
  have hm : (i + (l.length - (i + 1))) = l.length - 1 := by omega
  have e1 : (i + (l.length - (i + 1))) * sz = i * sz + (l.length - (i + 1)) * sz := by rw [Nat.add_mul]
  have e2 : (i + 1) * sz = i * sz + sz := by rw [Nat.add_mul, Nat.one_mul]
  have e3 : l.length * sz = i * sz + (l.length - (i + 1)) * sz + sz := by
    have : l.length = i + (l.length - (i + 1)) + 1 := by omega
    conv => lhs; rw [this]
    rw [Nat.add_mul, Nat.add_mul, Nat.one_mul]
  have hcl : l.length * sz ≤ cap * sz := Nat.mul_le_mul_right _ hnc
  obtain ⟨d1, d2, d3, d4⟩ := del_list cur.toList (cellsOf f l) zs.toList (i * sz) ((l.length - (i + 1)) * sz) sz (by rw [← e3, ht]) (by simp; omega) (by simpa using hz)
  rw [← e2, ← hn] at d1 d2 d3 d4
  have hRl : R.toList = (cur.toList.take (i * sz) ++ news ++ cur.toList.drop (i * sz + news.length)).take (i * sz + (l.length - (i + 1)) * sz) ++ zs.toList ++ (cur.toList.take (i * sz) ++ news ++ cur.toList.drop (i * sz + news.length)).drop (i * sz + (l.length - (i + 1)) * sz + sz) := by
    rw [hR, hA, e1, hz]
  have hheap : (((w.drewN q).setRow g A).setRow g R).heap[g]? = some (.cells R e (0, 0)) := setRow_heap _ g _ R e _ (setRow_heap (w.drewN q) g _ A e _ hg)
  have hel : (l.eraseIdx i).length = l.length - 1 := List.length_eraseIdx_of_lt hi
  have hcell : (cellsOf f l).take (i * sz) ++ news = cellsOf f (l.eraseIdx i) := by
    rw [hn, cellsOf_take hf l i (by omega), cellsOf_drop hf l (i + 1) (by omega), ← cellsOf_append, List.eraseIdx_eq_take_drop_succ]
  refine ⟨by rw [hm], ⟨by rw [cellsOf_len hf], .inr ⟨g, cap, R, ?_, hB, hheap, ?_, hcm, ?_, ?_⟩⟩, ⟨rfl, rfl, rfl, by simp, fun c hc => ?_⟩⟩
  · rw [hel]
  · omega
  · rw [← hcs]
    have := congrArg List.length hRl
    rw [d3] at this
    simpa using this
  · rw [hel, ← hm, e1, hRl, d4, hcell]
  · exact (setRow_other _ g c R hc).trans (setRow_other (w.drewN q) g c A hc)

/-- What a call gives that makes a row of its own. -/
def RowGave {α : Type} (e : TypeId) (sz : Nat) (f : α → List Value) (l : List α) (w : World) (x : Ending) (w' : World) : Prop := ∃ v, x = .returned v ∧ w'.ownsRow w.heap.size e sz v l.length (cellsOf f l) ∧ Below w.heap.size w w'


end Go.Proofs.Ytdggjbaapnkcgaa
