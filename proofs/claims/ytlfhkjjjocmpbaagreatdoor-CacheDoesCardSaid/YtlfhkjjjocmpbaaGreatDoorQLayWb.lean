import Derived.Test.YtlfhkjjjocmpbaaGreatDoorRows
import Derived.Test.YtlfhkjjjocmpbaaGreatDoorLayBase
import Derived.WalkKit
import Derived.Lib.Hide
import Derived.WalkSpells
import Derived.WalkLawsBesides
import Derived.Deep.AppendLies
import Derived.Deep.QuietTactic
import Derived.BigQuiet
import Derived.Deep.RegionLaw
import Derived.Deep.MidRow
import Derived.Lib.SliceRun
import Derived.Laws.CopyRow

namespace Go.Proofs.YtlfhkjjjocmpbaaGreatDoor.Wb
open Go Go.RowKit

structure En where
  ln : Int
  wd : Wd
  lv : Bool

structure Wo where
  k : Int
  ln : Int
  wd : Wd
def m0 : En := ⟨0, d0, false⟩
abbrev mcells (x : En) : Array Value := #[.int .i64 x.ln, .int .i64 x.wd.w0, .int .i64 x.wd.w1, .int .i64 x.wd.w2, .int .i64 x.wd.w3, .int .i64 x.wd.w4, .int .i64 x.wd.w5, .int .i64 x.wd.w6, .int .i64 x.wd.w7, .bool x.lv]
def mc (x : En) : List Value := (mcells x).toList
theorem mc_len (x : En) : (mc x).length = 10 := rfl
def isL (line : Int) (x : En) : Bool := x.ln == line
def fnd (l : List En) (line : Int) : Option Nat := l.findIdx? (isL line)
def oi : Option Nat → Int
  | some k => k
  | none => -1
def newE (line : Int) (d : Wd) : En := ⟨line, d, true⟩
def gone (x : En) : En := { x with lv := false }

def putP (room : Int) (l : List En) (line : Int) (d : Wd) : Int × List En :=
  if (fnd l line).isSome = true then (6, l) else if (l.length : Int) = room then (4, l) else (0, l ++ [newE line d])
def ansP (f : En → En) (l : List En) (line : Int) : (Wd × Int) × List En := match fnd l line with
  | none => ((d0, 5), l)
  | some i => match l[i]? with
    | none => ((d0, 5), l)
    | some x => if x.lv = true then ((x.wd, 0), l.set i (f x)) else ((d0, 7), l)
def dropP (l : List En) (line : Int) : Int × List En := match fnd l line with
  | none => (5, l)
  | some i => (0, l.eraseIdx i)
def getP (l : List En) (line : Int) : En × Bool := match fnd l line with
  | none => (m0, false)
  | some i => match l[i]? with
    | none => (m0, false)
    | some x => (x, true)
def doP (room : Int) (l : List En) (x : Wo) : (Wd × Int) × List En :=
  if x.k = 0 then ((d0, (putP room l x.ln x.wd).1), (putP room l x.ln x.wd).2)
  else if x.k = 1 then ansP id l x.ln
  else if x.k = 2 then ansP gone l x.ln
  else ((d0, (dropP l x.ln).1), (dropP l x.ln).2)

theorem fnd_some {l : List En} {line : Int} {i : Nat} (h : fnd l line = some i) : ∃ x, l[i]? = some x ∧ x.ln = line ∧ i < l.length := by
  obtain ⟨hi, hx, _⟩ := List.findIdx?_eq_some_iff_getElem.1 h
  exact ⟨_, List.getElem?_eq_getElem hi, by simpa [isL] using hx, hi⟩
theorem fnd_none {l : List En} {line : Int} (h : fnd l line = none) : ∀ x ∈ l, x.ln ≠ line := by
  intro x hx
  have := List.findIdx?_eq_none_iff.1 h x hx
  simpa [isL] using this
theorem fnd_at {l : List En} (hn : (l.map En.ln).Nodup) {i : Nat} {x : En} (hx : l[i]? = some x) : fnd l x.ln = some i := by
  obtain ⟨hi, rfl⟩ := List.getElem?_eq_some_iff.1 hx
  refine List.findIdx?_eq_some_iff_getElem.2 ⟨hi, by simp [isL], fun j hj => ?_⟩
  have := (List.nodup_iff_pairwise_ne.1 hn)
  have h2 := List.pairwise_iff_getElem.1 this j i (by simp; omega) (by simpa using hi) hj
  simpa [isL] using h2
theorem find_none {p : En → Bool} {l : List En} (h : ∀ (j : Nat) (x : En), l[j]? = some x → p x = false) : l.findIdx? p = none := by
  rw [List.findIdx?_eq_none_iff]
  intro x hx
  obtain ⟨j, hj, rfl⟩ := List.getElem_of_mem hx
  exact h j _ (List.getElem?_eq_getElem hj)
theorem find_some {p : En → Bool} {l : List En} {k : Nat} {x : En} (hk : l[k]? = some x) (hx : p x = true) (h : ∀ (j : Nat) (y : En), j < k → l[j]? = some y → p y = false) : l.findIdx? p = some k := by
  obtain ⟨hl, rfl⟩ := List.getElem?_eq_some_iff.1 hk
  rw [List.findIdx?_eq_some_iff_getElem]
  refine ⟨hl, hx, fun j hj => ?_⟩
  have := h j _ hj (List.getElem?_eq_getElem (by omega))
  simpa using this

structure Good (room : Int) (l : List En) : Prop where
  r1 : 1 ≤ room
  r2 : room ≤ 8
  len : (l.length : Int) ≤ room
  uq : (l.map En.ln).Nodup
theorem Good.short {room : Int} {l : List En} (h : Good room l) : l.length ≤ 8 := by have := h.len; have := h.r2; omega
theorem Good.new {room : Int} (h1 : 1 ≤ room) (h2 : room ≤ 8) : Good room [] := ⟨h1, h2, by simp; omega, by simp⟩
theorem Good.set {room : Int} {l : List En} (h : Good room l) {i : Nat} {x y : En} (hx : l[i]? = some x) (hl : y.ln = x.ln) : Good room (l.set i y) := by
  obtain ⟨hi, rfl⟩ := List.getElem?_eq_some_iff.1 hx
  refine ⟨h.r1, h.r2, by rw [List.length_set]; exact h.len, ?_⟩
  have e : (l.set i y).map En.ln = l.map En.ln := by
    rw [List.map_set, hl]
    have : (List.map En.ln l).set i l[i].ln = (List.map En.ln l).set i ((List.map En.ln l)[i]'(by simpa using hi)) := by simp
    rw [this, List.set_getElem_self]
  rw [e]; exact h.uq
theorem set_same {l : List En} {i : Nat} {x : En} (hx : l[i]? = some x) : l.set i x = l := by
  obtain ⟨hi, rfl⟩ := List.getElem?_eq_some_iff.1 hx
  exact List.set_getElem_self hi
theorem putP_twice {room : Int} {l : List En} {line : Int} (d : Wd) {i : Nat} (hp : fnd l line = some i) : putP room l line d = (6, l) := by unfold putP; rw [hp]; rfl
theorem putP_full {room : Int} {l : List En} {line : Int} (d : Wd) (hp : fnd l line = none) (hl : (l.length : Int) = room) : putP room l line d = (4, l) := by unfold putP; rw [hp, if_neg (by simp), if_pos hl]
theorem putP_yes {room : Int} {l : List En} {line : Int} (d : Wd) (hp : fnd l line = none) (hl : ¬ (l.length : Int) = room) : putP room l line d = (0, l ++ [newE line d]) := by unfold putP; rw [hp, if_neg (by simp), if_neg hl]
theorem ansP_none (f : En → En) {l : List En} {line : Int} (h : fnd l line = none) : ansP f l line = ((d0, 5), l) := by unfold ansP; rw [h]
theorem ansP_no (f : En → En) {l : List En} {line : Int} {i : Nat} {x : En} (h : fnd l line = some i) (hx : l[i]? = some x) (ht : x.lv = false) : ansP f l line = ((d0, 7), l) := by unfold ansP; rw [h]; simp only [hx]; rw [if_neg (by simp [ht])]
theorem ansP_yes (f : En → En) {l : List En} {line : Int} {i : Nat} {x : En} (h : fnd l line = some i) (hx : l[i]? = some x) (ht : x.lv = true) : ansP f l line = ((x.wd, 0), l.set i (f x)) := by unfold ansP; rw [h]; simp only [hx]; rw [if_pos ht]
theorem dropP_none {l : List En} {line : Int} (h : fnd l line = none) : dropP l line = (5, l) := by unfold dropP; rw [h]
theorem dropP_yes {l : List En} {line : Int} {i : Nat} (h : fnd l line = some i) : dropP l line = (0, l.eraseIdx i) := by unfold dropP; rw [h]
theorem getP_none {l : List En} {line : Int} (h : fnd l line = none) : getP l line = (m0, false) := by unfold getP; rw [h]
theorem getP_yes {l : List En} {line : Int} {i : Nat} {x : En} (h : fnd l line = some i) (hx : l[i]? = some x) : getP l line = (x, true) := by unfold getP; rw [h]; simp only [hx]
theorem Good.put {room : Int} {l : List En} (h : Good room l) (line : Int) (d : Wd) : Good room (putP room l line d).2 := by
  rcases hp : fnd l line with _ | i
  · by_cases hl : (l.length : Int) = room
    · rw [putP_full d hp hl]; exact h
    · rw [putP_yes d hp hl]
      have hle := h.len
      refine ⟨h.r1, h.r2, by simp; omega, ?_⟩
      rw [List.map_append, List.nodup_append]
      refine ⟨h.uq, by simp, fun a ha b hb => ?_⟩
      obtain ⟨x, hx, rfl⟩ := List.mem_map.1 ha
      have hb' : b = line := by simpa [newE] using hb
      rw [hb']
      exact fnd_none hp x hx
  · rw [putP_twice d hp]; exact h
theorem Good.ans {room : Int} {l : List En} (h : Good room l) (f : En → En) (hf : ∀ x, (f x).ln = x.ln) (line : Int) : Good room (ansP f l line).2 := by
  rcases hp : fnd l line with _ | i
  · rw [ansP_none f hp]; exact h
  · obtain ⟨x, hx, _, _⟩ := fnd_some hp
    rcases Bool.eq_false_or_eq_true x.lv with ht | ht
    · rw [ansP_yes f hp hx ht]; exact h.set hx (hf x)
    · rw [ansP_no f hp hx ht]; exact h
theorem Good.drop {room : Int} {l : List En} (h : Good room l) (line : Int) : Good room (dropP l line).2 := by
  rcases hp : fnd l line with _ | i
  · rw [dropP_none hp]; exact h
  · rw [dropP_yes hp]
    have hs := List.eraseIdx_sublist l i
    have hle := h.len
    have := hs.length_le
    exact ⟨h.r1, h.r2, by show ((l.eraseIdx i).length : Int) ≤ room; omega, h.uq.sublist (hs.map _)⟩
theorem Good.doP {room : Int} {l : List En} (h : Good room l) (x : Wo) : Good room (doP room l x).2 := by
  unfold Go.Proofs.YtlfhkjjjocmpbaaGreatDoor.Wb.doP
  repeat' split
  · exact h.put _ _
  · exact h.ans id (fun _ => rfl) _
  · exact h.ans gone (fun _ => rfl) _
  · exact h.drop _

end Go.Proofs.YtlfhkjjjocmpbaaGreatDoor.Wb

namespace Go.Proofs.YtlfhkjjjocmpbaaGreatDoor.Wb
open Go Go.RowKit

theorem ret_pair {a b : Int} {c d : Bool} (h : a = b) (h' : c = d) : Ending.returned (.tuple #[.int .i64 a, .bool c]) = .returned (.tuple #[.int .i64 b, .bool d]) := by rw [h, h']
theorem bbox {w w1 : World} {o : Obj} (h : Below (w.alloc o).heap.size (w.alloc o) w1) : Below w.heap.size w w1 := ((Below.refl _ _).alloc (Nat.le_refl _) _).trans (h.mono (by simp))
theorem zbox {w w1 : World} {o : Obj} (h : Below (w.alloc o).heap.size (w.alloc o) w1) : w.heap.size < w1.heap.size := by have := h.size; simp at this; omega
theorem balloc (w : World) (o : Obj) : Below w.heap.size w (w.alloc o) := (Below.refl _ _).alloc (Nat.le_refl _) _
theorem box_at {w w1 : World} {o : Obj} (h : Below (w.alloc o).heap.size (w.alloc o) w1) : w1.heap[w.heap.size]? = some o := (h.block w.heap.size (by simp)).trans (heap_alloc_new w o)
theorem ret_bool {a b : Bool} (h : a = b) : Ending.returned (.bool a) = .returned (.bool b) := by rw [h]
theorem ret_int {k : IntKind} {a b : Int} (h : a = b) : Ending.returned (.int k a) = .returned (.int k b) := by rw [h]
theorem bstep {w w1 w2 : World} (h : Below w.heap.size w w1) (h2 : Below w1.heap.size w1 w2) : Below w.heap.size w w2 := h.trans (h2.mono h.size)
theorem below_drewN {B : Nat} {w w' : World} (h : Below B w w') (n : Nat) : Below B w (w'.drewN n) := ⟨h.os, h.tape, h.output, h.size, h.block⟩
theorem below_setRow {B : Nat} {w w' : World} (h : Below B w w') {g : Nat} (hg : B ≤ g) (cs : Array Value) : Below B w (w'.setRow g cs) :=
  h.trans ⟨rfl, rfl, rfl, by simp, fun k hk => setRow_other w' g k cs (by omega)⟩
theorem blk_cell {w : World} {b : Nat} {L : Array Value} {t : TypeId} (h : w.heap[b]? = some (.cells L t (0, 0))) (i : Nat) : w.cell? ⟨b, i, none⟩ = L[i]? := by simp [World.cell?, h]
theorem blk_free {w : World} {b : Nat} {L : Array Value} {t : TypeId} (h : w.heap[b]? = some (.cells L t (0, 0))) (i : Nat) : w.frozen? ⟨b, i, none⟩ = false := by simp [World.frozen?, h]
theorem lt_of_block {w : World} {b : Nat} {o : Obj} (h : w.heap[b]? = some o) : b < w.heap.size := (Array.getElem?_eq_some_iff.1 h).1

def cellsOf {α : Type} (f : α → List Value) (l : List α) : List Value := l.flatMap f
theorem cellsOf_len {α : Type} {f : α → List Value} {sz : Nat} (hf : ∀ x, (f x).length = sz) (l : List α) : (cellsOf f l).length = l.length * sz := by
  induction l with
  | nil => simp [cellsOf]
  | cons x l ih =>
    have e : cellsOf f (x :: l) = f x ++ cellsOf f l := rfl
    rw [e, List.length_append, ih, hf, List.length_cons, Nat.add_mul, Nat.one_mul, Nat.add_comm]
theorem cellsOf_append {α : Type} (f : α → List Value) (l m : List α) : cellsOf f (l ++ m) = cellsOf f l ++ cellsOf f m := by simp [cellsOf]
theorem cellsOf_take {α : Type} {f : α → List Value} {sz : Nat} (hf : ∀ x, (f x).length = sz) (l : List α) (i : Nat) (h : i ≤ l.length) : (cellsOf f l).take (i * sz) = cellsOf f (l.take i) := by
  have e : cellsOf f l = cellsOf f (l.take i) ++ cellsOf f (l.drop i) := by rw [← cellsOf_append, List.take_append_drop]
  have hl : (cellsOf f (l.take i)).length = i * sz := by rw [cellsOf_len hf, List.length_take, Nat.min_eq_left h]
  rw [e, ← hl, List.take_left']
  rfl
theorem cellsOf_drop {α : Type} {f : α → List Value} {sz : Nat} (hf : ∀ x, (f x).length = sz) (l : List α) (i : Nat) (h : i ≤ l.length) : (cellsOf f l).drop (i * sz) = cellsOf f (l.drop i) := by
  have e : cellsOf f l = cellsOf f (l.take i) ++ cellsOf f (l.drop i) := by rw [← cellsOf_append, List.take_append_drop]
  have hl : (cellsOf f (l.take i)).length = i * sz := by rw [cellsOf_len hf, List.length_take, Nat.min_eq_left h]
  rw [e, ← hl, List.drop_left']
  rfl
theorem cellsOf_at {α : Type} {f : α → List Value} {sz : Nat} (hf : ∀ x, (f x).length = sz) (l : List α) (i j : Nat) (h : i < l.length) (hj : j < sz) : (cellsOf f l)[i * sz + j]? = (f l[i])[j]? := by
  have e : (cellsOf f l).drop (i * sz) = f l[i] ++ cellsOf f (l.drop (i + 1)) := by
    rw [cellsOf_drop hf l i (by omega), List.drop_eq_getElem_cons h]
    rfl
  rw [← List.getElem?_drop, e, List.getElem?_append_left (by rw [hf]; exact hj)]

structure Bg {α : Type} (T e : TypeId) (sz : Nat) (f : α → List Value) (w : World) (B b : Nat) (room : Int) (l : List α) (v : Value) : Prop where
  blk : w.heap[b]? = some (.cells #[.int .i64 room, v] T (0, 0))
  row : w.ownsRow B e sz v l.length (cellsOf f l)
  off : v.ownBlock ≠ some b
  big : B ≤ b

structure Turn (b : Nat) (v : Value) (w w' : World) : Prop where
  os : w'.os = w.os
  tape : w'.tape = w.tape
  output : w'.output = w.output
  size : w.heap.size ≤ w'.heap.size
  other : ∀ k, k < w.heap.size → k ≠ b → v.ownBlock ≠ some k → w'.heap[k]? = w.heap[k]?

def Fresh (w : World) (v v' : Value) : Prop := ∀ k, v'.ownBlock = some k → v.ownBlock = some k ∨ w.heap.size ≤ k
theorem Fresh.refl (w : World) (v : Value) : Fresh w v v := fun _ h => .inl h

theorem Turn.of_below {b : Nat} {v : Value} {w w' : World} (h : Below w.heap.size w w') : Turn b v w w' := ⟨h.os, h.tape, h.output, h.size, fun k hk _ _ => h.block k hk⟩
theorem Turn.trans {b : Nat} {v v' : Value} {w w1 w2 : World} (h : Turn b v w w1) (k : Turn b v' w1 w2) (hf : Fresh w v v') : Turn b v w w2 :=
  ⟨k.os.trans h.os, k.tape.trans h.tape, k.output.trans h.output, Nat.le_trans h.size k.size, fun i hi h1 h2 => (k.other i (Nat.lt_of_lt_of_le hi h.size) h1 (fun e => by rcases hf i e with e | e; exact h2 e; omega)).trans (h.other i hi h1 h2)⟩
theorem Turn.below {α : Type} {T e : TypeId} {sz : Nat} {f : α → List Value} {w w' : World} {B b : Nat} {room : Int} {l : List α} {v : Value} (h : Turn b v w w') (hb : Bg T e sz f w B b room l v) (hB : B ≤ w.heap.size) : Below B w w' :=
  ⟨h.os, h.tape, h.output, h.size, fun k hk => h.other k (by omega) (by have := hb.big; omega) (fun e => by have := hb.row.lt k e; omega)⟩

theorem Bg.lt {α : Type} {T e : TypeId} {sz : Nat} {f : α → List Value} {w : World} {B b : Nat} {room : Int} {l : List α} {v : Value} (h : Bg T e sz f w B b room l v) : b < w.heap.size := lt_of_block h.blk
theorem own_block {w w' : World} {base e sz n : Nat} {v : Value} {xs : List Value} (h : w.ownsRow base e sz v n xs) (hb : ∀ k, v.ownBlock = some k → w'.heap[k]? = w.heap[k]?) : w'.ownsRow base e sz v n xs := by
  refine ⟨h.1, ?_⟩
  rcases h.2 with hn | ⟨g, cap, cur, rfl, hb', hgg, rest⟩
  · exact .inl hn
  · exact .inr ⟨g, cap, cur, rfl, hb', (hb g rfl).trans hgg, rest⟩
theorem own_base {w : World} {base base' e sz n : Nat} {v : Value} {xs : List Value} (h : w.ownsRow base e sz v n xs) (hb : ∀ k, v.ownBlock = some k → base' ≤ k) : w.ownsRow base' e sz v n xs := by
  refine ⟨h.1, ?_⟩
  rcases h.2 with hn | ⟨g, cap, cur, rfl, hb', rest⟩
  · exact .inl hn
  · exact .inr ⟨g, cap, cur, rfl, hb g rfl, rest⟩

theorem Bg.keep {α : Type} {T e : TypeId} {sz : Nat} {f : α → List Value} {w w' : World} {B b : Nat} {room : Int} {l : List α} {v : Value} (h : Bg T e sz f w B b room l v) (h1 : w'.heap[b]? = w.heap[b]?) (h2 : ∀ k, v.ownBlock = some k → w'.heap[k]? = w.heap[k]?) : Bg T e sz f w' B b room l v :=
  ⟨h1.trans h.blk, own_block h.row h2, h.off, h.big⟩
theorem Bg.below {α : Type} {T e : TypeId} {sz : Nat} {f : α → List Value} {w w' : World} {B b : Nat} {room : Int} {l : List α} {v : Value} (h : Bg T e sz f w B b room l v) (hb : Below w.heap.size w w') : Bg T e sz f w' B b room l v :=
  h.keep (hb.block b h.lt) fun k hk => hb.block k (h.row.lt k hk).2
theorem Bg.form {α : Type} {T e : TypeId} {sz : Nat} {f : α → List Value} {w : World} {B b : Nat} {room : Int} {l : List α} {v : Value} (h : Bg T e sz f w B b room l v) : ∃ p cap, v = .slice p l.length cap ∧ (0 < l.length → ∃ g, p = some ⟨g, 0, none⟩) := by
  rcases h.row.2 with ⟨e, h0⟩ | ⟨g, cap, cur, e, _⟩
  · exact ⟨none, 0, by rw [e, h0], fun h => by omega⟩
  · exact ⟨_, cap, e, fun _ => ⟨g, rfl⟩⟩

theorem Bg.new {α : Type} {T e : TypeId} {sz : Nat} {f : α → List Value} {w : World} {B : Nat} {room : Int} (hB : B ≤ w.heap.size) : Bg T e sz f (w.alloc (.cells #[.int .i64 room, .slice none 0 0] T)) B w.heap.size room [] (.slice none 0 0) :=
  ⟨heap_alloc_new w _, World.ownsRow_nil _ _ _ _, by simp [Value.ownBlock], hB⟩

def PutGave {α : Type} (T e : TypeId) (sz : Nat) (f : α → List Value) (w : World) (B b : Nat) (room : Int) (l : List α) (v : Value) (w' : World) : Prop := ∃ v', Bg T e sz f w' B b room l v' ∧ Turn b v w w' ∧ Fresh w v v'
theorem put_blk {α : Type} {T e : TypeId} {sz : Nat} {f : α → List Value} {w w1 w2 : World} {B b : Nat} {room : Int} {l : List α} {v : Value} (h : Bg T e sz f w B b room l v) (hw : Below w.heap.size w w1) (hgrow : w1.grownBy w2 v.ownBlock) : w2.heap[b]? = some (.cells #[.int .i64 room, v] T (0, 0)) :=
  (hgrow.block b (Nat.lt_of_lt_of_le h.lt hw.size) (fun e => h.off e.symm)).trans ((hw.block b h.lt).trans h.blk)
theorem put_gave {α : Type} {T e : TypeId} {sz : Nat} {f : α → List Value} {w w1 w2 : World} {B b : Nat} {room : Int} {l : List α} {x : α} {v : Value} {g cap : Nat} (h : Bg T e sz f w B b room l v) (hw : Below w.heap.size w w1)
    (hown : w2.ownsRow B e sz (.slice (some ⟨g, 0, none⟩) (l.length + 1) cap) (l.length + 1) (cellsOf f l ++ f x)) (hgrow : w1.grownBy w2 v.ownBlock) (hat : v.ownBlock = some g ∨ w.heap.size ≤ g) :
    PutGave T e sz f w B b room (l ++ [x]) v (w2.setCell ⟨b, 1, none⟩ (.slice (some ⟨g, 0, none⟩) (l.length + 1) cap)) := by
  have hbl := h.lt
  have hb2 : w2.heap[b]? = some (.cells #[.int .i64 room, v] T (0, 0)) := (hgrow.block b (Nat.lt_of_lt_of_le hbl hw.size) (fun e => h.off e.symm)).trans ((hw.block b hbl).trans h.blk)
  have hgb : g ≠ b := by
    rcases hat with hat | hat
    · exact fun e => h.off (e ▸ hat)
    · omega
  refine ⟨.slice (some ⟨g, 0, none⟩) (l.length + 1) cap, ⟨?_, ?_, ?_, h.big⟩, ?_, ?_⟩
  · rw [heap_setCell_same w2 b 1 _ _ _ hb2]
    rfl
  · have := own_block (w' := w2.setCell ⟨b, 1, none⟩ (.slice (some ⟨g, 0, none⟩) (l.length + 1) cap)) hown fun k hk => by
      simp only [Value.ownBlock, Option.some.injEq] at hk
      exact heap_setCell_other _ _ _ _ (by simp only; omega)
    rw [List.length_append, List.length_singleton, cellsOf_append]
    simpa [cellsOf] using this
  · simpa [Value.ownBlock] using hgb
  · refine ⟨?_, ?_, ?_, ?_, fun k hk h1 h2 => ?_⟩
    · exact hgrow.os.trans hw.os
    · exact hgrow.tape.trans hw.tape
    · exact hgrow.output.trans hw.output
    · have h3 := hw.size; have h4 := hgrow.size; simp [World.setCell]; omega
    · exact (heap_setCell_other _ _ _ _ h1).trans ((hgrow.block k (Nat.lt_of_lt_of_le hk hw.size) (fun e => h2 e.symm)).trans (hw.block k hk))
  · intro k hk
    simp only [Value.ownBlock, Option.some.injEq] at hk
    rcases hat with hat | hat
    · exact .inl (hk ▸ hat)
    · exact .inr (hk ▸ hat)

structure Only (b : Nat) (w w' : World) : Prop where
  os : w'.os = w.os
  tape : w'.tape = w.tape
  output : w'.output = w.output
  size : w'.heap.size = w.heap.size
  other : ∀ c, c ≠ b → w'.heap[c]? = w.heap[c]?

def RowGave {α : Type} (e : TypeId) (sz : Nat) (f : α → List Value) (l : List α) (w : World) (x : Ending) (w' : World) : Prop := ∃ v, x = .returned v ∧ w'.ownsRow w.heap.size e sz v l.length (cellsOf f l) ∧ Below w.heap.size w w'

theorem results_cell_two {P : Program} {fn : Func} {p q : Tmp} {ty : TypeId} (h : fn.results = #[.cell p ty, .tmp q]) (tmps : Array Value) (w : World) (g : Nat) (t : TypeId) (cs : Array Value) (fr : Nat × Nat) (d : TypeDesc)
    (hp : tmps.getD p undef = .pointer (some ⟨g, 0, none⟩)) (hg : w.heap[g]? = some (.cells cs t fr))
    (hu : P.underlying ty = some d) (hd : (match d with | .struct _ | .array _ _ => true | _ => false) = true) (hi : (P.info? ty).map (·.size) = some cs.size) :
    (results fn tmps).run P w = .ok (.tuple #[.agg cs, tmps.getD q undef]) w := by
  have hp' : tmps[p]?.getD undef = .pointer (some ⟨g, 0, none⟩) := by simpa using hp
  simp [results, h, hp', asAddr, run_loadVar_row w g t ty cs fr d hg hu hd hi]

theorem new_at1 (w : World) (A B : Obj) : ((w.alloc A).alloc B).heap[w.heap.size]? = some A := by
  rw [Below.heap_alloc _ _ _ (by simp)]
  exact heap_alloc_new w A

theorem mc_one (x : En) : ∀ u ∈ mc x, u.oneCell' = true := by
  intro u hu
  simp [mc] at hu
  rcases hu with rfl | rfl | rfl | rfl | rfl | rfl | rfl | rfl | rfl | rfl <;> rfl
theorem mcs_one (l : List En) : ∀ u ∈ cellsOf mc l, u.oneCell' = true := by
  intro u hu
  obtain ⟨m, _, hm⟩ := List.mem_flatMap.1 hu
  exact mc_one m u hm
theorem heap_drew (w : World) : w.drew.heap = w.heap := rfl

def EnIn (w : World) (p : Option Addr) (l : List En) : Prop := ∀ i x, l[i]? = some x → ∃ g, p = some ⟨g, 0, none⟩ ∧ g < w.heap.size ∧ w.rangeAt g (i * 10) (mc x)
theorem EnIn.step {w w' : World} {p : Option Addr} {l : List En} (h : EnIn w p l) (hb : Below w.heap.size w w') : EnIn w' p l := fun i x hx => by
  obtain ⟨g, e, hg, hr⟩ := h i x hx
  exact ⟨g, e, Nat.lt_of_lt_of_le hg hb.size, fun j v hv => (hb.cell (p := ⟨g, i * 10 + j, none⟩) hg).trans (hr j v hv)⟩
theorem own_ins {w : World} {B e : Nat} {v : Value} {l : List En} (h : w.ownsRow B e 10 v l.length (cellsOf mc l)) : ∃ p cap, v = .slice p l.length cap ∧ EnIn w p l := by
  rcases h.2 with ⟨rfl, h0⟩ | ⟨g, cap, cur, rfl, hb, hg, rest⟩
  · exact ⟨none, 0, by rw [h0], fun i x hx => by have := (List.getElem?_eq_some_iff.1 hx).1; omega⟩
  · refine ⟨_, cap, rfl, fun i x hx => ⟨g, rfl, lt_of_block hg, fun j u hu => ?_⟩⟩
    obtain ⟨hi, rfl⟩ := List.getElem?_eq_some_iff.1 hx
    have hj : j < 10 := by
      have := (List.getElem?_eq_some_iff.1 hu).1
      rwa [mc_len] at this
    have := h.cells (g := g) rfl (i * 10 + j) u (by rw [cellsOf_at mc_len l i j hi hj]; exact hu)
    rwa [Addr.add_lit, Nat.zero_add] at this
theorem Bg.ins {T e : TypeId} {w : World} {B b : Nat} {room : Int} {l : List En} {v : Value} (h : Bg T e 10 mc w B b room l v) : ∃ p cap, v = .slice p l.length cap ∧ EnIn w p l := own_ins h.row

theorem Bg.one {T e : TypeId} {w : World} {B b : Nat} {room : Int} {l : List En} {v : Value} (h : Bg T e 10 mc w B b room l v) {i : Nat} {x : En} (hx : l[i]? = some x) :
    ∃ g cap, v = .slice (some ⟨g, 0, none⟩) l.length cap ∧ b ≠ g ∧ g < w.heap.size ∧ B ≤ g ∧ w.rangeAt g (i * 10) (mc x) ∧ (∀ o, w.frozen? ⟨g, o, none⟩ = false) ∧ l.length ≤ cap ∧ cap ≤ maxLen := by
  have hi := (List.getElem?_eq_some_iff.1 hx).1
  obtain ⟨p, cap, e0, hin⟩ := h.ins
  obtain ⟨g, rfl, hg, hr⟩ := hin i x hx
  subst e0
  rcases h.row.2 with ⟨e0, h0⟩ | ⟨g', cap', cur, e0, hB, hgg, h1, h2, _⟩
  · cases e0
  · obtain ⟨rfl, rfl⟩ : g = g' ∧ cap = cap' := by simpa using e0
    exact ⟨g, cap, rfl, fun e => h.off (by rw [e]; rfl), hg, hB, hr, fun o => blk_free hgg o, h1, h2⟩

theorem heap_setCells_row (g : Nat) (t : TypeId) : ∀ (vs : List Value) (o : Nat) (cur : Array Value) (w : World), w.heap[g]? = some (.cells cur t (0, 0)) → o + vs.length ≤ cur.size →
    (w.setCells g o vs).heap[g]? = some (.cells (cur.toList.take o ++ vs ++ cur.toList.drop (o + vs.length)).toArray t (0, 0))
  | [], o, cur, w, hg, _ => by simpa [World.setCells] using hg
  | v :: r, o, cur, w, hg, hl => by
    have ih := heap_setCells_row g t r (o + 1) (cur.setIfInBounds o v) (w.setCell ⟨g, o, none⟩ v) (by rw [heap_setCell_same w g o _ _ _ hg]) (by simp at hl ⊢; omega)
    rw [World.setCells, ih]
    congr 3
    have e := list_seg_step cur.toList o v r (by simp at hl ⊢; omega)
    simpa [Array.toList_setIfInBounds, Nat.add_assoc, Nat.add_comm] using e
theorem heap_setCells_other (b : Nat) : ∀ (vs : List Value) (o : Nat) (w : World) (k : Nat), k ≠ b → (w.setCells b o vs).heap[k]? = w.heap[k]?
  | [], _, _, _, _ => rfl
  | v :: r, o, w, k, h => by rw [World.setCells, heap_setCells_other b r (o + 1) _ k h, heap_setCell_other _ _ _ _ h]
theorem setCells_rest (b : Nat) : ∀ (vs : List Value) (o : Nat) (w : World), (w.setCells b o vs).os = w.os ∧ (w.setCells b o vs).tape = w.tape ∧ (w.setCells b o vs).output = w.output ∧ (w.setCells b o vs).heap.size = w.heap.size
  | [], _, _ => ⟨rfl, rfl, rfl, rfl⟩
  | v :: r, o, w => by
    obtain ⟨h1, h2, h3, h4⟩ := setCells_rest b r (o + 1) (w.setCell ⟨b, o, none⟩ v)
    rw [World.setCells]
    exact ⟨h1, h2, h3, by rw [h4]; simp⟩

theorem cells_set {l : List En} {i : Nat} {x y : En} (hx : l[i]? = some x) (j : Nat) (vs : List Value) (hj : j + vs.length ≤ 10) (hin : ∀ m, m < vs.length → (mc y)[j + m]? = vs[m]?) (hout : ∀ m, m < 10 → m < j ∨ j + vs.length ≤ m → (mc y)[m]? = (mc x)[m]?) :
    (cellsOf mc l).take (i * 10 + j) ++ vs ++ (cellsOf mc l).drop (i * 10 + j + vs.length) = cellsOf mc (l.set i y) := by
  obtain ⟨hi, rfl⟩ := List.getElem?_eq_some_iff.1 hx
  have hL := cellsOf_len mc_len l
  have hsplit : cellsOf mc l = cellsOf mc (l.take i) ++ (mc l[i] ++ cellsOf mc (l.drop (i + 1))) := by
    conv => lhs; rw [← List.take_append_drop i l, cellsOf_append, List.drop_eq_getElem_cons hi]
    rfl
  have hset : cellsOf mc (l.set i y) = cellsOf mc (l.take i) ++ (mc y ++ cellsOf mc (l.drop (i + 1))) := by
    rw [List.set_eq_take_append_cons_drop, if_pos hi, cellsOf_append]
    rfl
  have hA : (cellsOf mc (l.take i)).length = i * 10 := by rw [cellsOf_len mc_len, List.length_take, Nat.min_eq_left (by omega)]
  have hy : mc y = (mc l[i]).take j ++ vs ++ (mc l[i]).drop (j + vs.length) := by
    refine List.ext_getElem? fun m => ?_
    by_cases h15 : m < 10
    · by_cases h1 : m < j
      · rw [hout m h15 (.inl h1), List.append_assoc, List.getElem?_append_left (by rw [List.length_take, mc_len]; omega), List.getElem?_take, if_pos h1]
      · by_cases h2 : m < j + vs.length
        · rw [List.append_assoc, List.getElem?_append_right (by rw [List.length_take, mc_len]; omega), List.getElem?_append_left (by rw [List.length_take, mc_len]; omega)]
          have := hin (m - j) (by omega)
          rw [show j + (m - j) = m by omega] at this
          rw [this, List.length_take, mc_len, Nat.min_eq_left (by omega)]
        · rw [hout m h15 (.inr (by omega)), List.getElem?_append_right (by rw [List.length_append, List.length_take, mc_len]; omega), List.getElem?_drop, List.length_append, List.length_take, mc_len, Nat.min_eq_left (by omega)]
          congr 1; omega
    · rw [List.getElem?_eq_none (by rw [mc_len]; omega), List.getElem?_eq_none (by rw [List.length_append, List.length_append, List.length_take, List.length_drop, mc_len]; omega)]
  rw [hset, hy, hsplit]
  have e1 : (cellsOf mc (l.take i) ++ (mc l[i] ++ cellsOf mc (l.drop (i + 1)))).take (i * 10 + j) = cellsOf mc (l.take i) ++ (mc l[i]).take j := by
    rw [← hA, List.take_length_add_append, List.take_append_of_le_length (by rw [mc_len]; omega)]
  have e2 : (cellsOf mc (l.take i) ++ (mc l[i] ++ cellsOf mc (l.drop (i + 1)))).drop (i * 10 + j + vs.length) = (mc l[i]).drop (j + vs.length) ++ cellsOf mc (l.drop (i + 1)) := by
    rw [← hA, Nat.add_assoc, List.drop_length_add_append, List.drop_append_of_le_length (by rw [mc_len]; omega)]
  rw [e1, e2]
  simp only [List.append_assoc]

theorem Bg.store {T e : TypeId} {w : World} {B b : Nat} {room : Int} {l : List En} {g cap : Nat} (h : Bg T e 10 mc w B b room l (.slice (some ⟨g, 0, none⟩) l.length cap)) {i : Nat} {x : En} (hx : l[i]? = some x) (y : En) (j : Nat) (vs : List Value) (hj : j + vs.length ≤ 10)
    (hin : ∀ m, m < vs.length → (mc y)[j + m]? = vs[m]?) (hout : ∀ m, m < 10 → m < j ∨ j + vs.length ≤ m → (mc y)[m]? = (mc x)[m]?) : Bg T e 10 mc (w.setCells g (i * 10 + j) vs) B b room (l.set i y) (.slice (some ⟨g, 0, none⟩) l.length cap) := by
  have hi := (List.getElem?_eq_some_iff.1 hx).1
  have hgb : b ≠ g := fun e => h.off (by rw [e]; rfl)
  obtain ⟨hlen, hh⟩ := h.row
  rcases hh with ⟨e0, h0⟩ | ⟨g', cap', cur, e0, hB, hgg, h1, h2, h3, h4⟩
  · cases e0
  · obtain ⟨rfl, rfl⟩ : g = g' ∧ cap = cap' := by simpa using e0
    have hfit : l.length * 10 ≤ cap * 10 := Nat.mul_le_mul_right _ h1
    have hi15 : (i + 1) * 10 ≤ l.length * 10 := Nat.mul_le_mul_right _ hi
    rw [Nat.add_mul] at hi15
    have hst := heap_setCells_row g e vs (i * 10 + j) cur w hgg (by omega)
    refine ⟨(heap_setCells_other g vs _ w b hgb).trans h.blk, ?_, h.off, h.big⟩
    rw [List.length_set]
    refine ⟨by rw [cellsOf_len mc_len, List.length_set], .inr ⟨g, cap, _, rfl, hB, hst, h1, h2, ?_, ?_⟩⟩
    · simp only [List.size_toArray, List.length_append, List.length_take, List.length_drop, Array.length_toList]
      omega
    · rw [List.toList_toArray]
      have e5 : cur.toList.drop (i * 10 + j + vs.length) = (cellsOf mc l).drop (i * 10 + j + vs.length) ++ cur.toList.drop (l.length * 10) := by
        have : cur.toList = cellsOf mc l ++ cur.toList.drop (l.length * 10) := by rw [← h4, List.take_append_drop]
        conv => lhs; rw [this]
        rw [List.drop_append_of_le_length (by rw [hlen]; omega)]
      have e6 : cur.toList.take (i * 10 + j) = (cellsOf mc l).take (i * 10 + j) := by
        rw [← h4, List.take_take, Nat.min_eq_left (by omega)]
      rw [e5, e6, ← List.append_assoc, cells_set hx j vs hj hin hout]
      have : (cellsOf mc (l.set i y)).length = l.length * 10 := by rw [cellsOf_len mc_len, List.length_set]
      rw [← this, List.take_left']
      rfl
theorem turn_setCells {b g n cap : Nat} (o : Nat) (vs : List Value) (w : World) : Turn b (.slice (some ⟨g, 0, none⟩) n cap) w (w.setCells g o vs) := by
  obtain ⟨h1, h2, h3, h4⟩ := setCells_rest g vs o w
  exact ⟨h1, h2, h3, by omega, fun k _ _ hne => heap_setCells_other g vs o w k (fun e => hne (by rw [e]; rfl))⟩
theorem gave_same {T e : TypeId} {w w' : World} {B b : Nat} {room : Int} {l : List En} {v : Value} (h : Bg T e 10 mc w B b room l v) (hb : Below w.heap.size w w') : PutGave T e 10 mc w B b room l v w' := ⟨v, h.below hb, .of_below hb, Fresh.refl _ _⟩
theorem gave_store {T e : TypeId} {w w1 : World} {B b : Nat} {room : Int} {l : List En} {g cap : Nat} (h : Bg T e 10 mc w B b room l (.slice (some ⟨g, 0, none⟩) l.length cap)) (hb : Below w.heap.size w w1) {i : Nat} {x : En} (hx : l[i]? = some x) (y : En) (j : Nat) (vs : List Value) (hj : j + vs.length ≤ 10)
    (hin : ∀ m, m < vs.length → (mc y)[j + m]? = vs[m]?) (hout : ∀ m, m < 10 → m < j ∨ j + vs.length ≤ m → (mc y)[m]? = (mc x)[m]?) : PutGave T e 10 mc w B b room (l.set i y) (.slice (some ⟨g, 0, none⟩) l.length cap) (w1.setCells g (i * 10 + j) vs) := by
  refine ⟨_, (h.below hb).store hx y j vs hj hin hout, ?_, Fresh.refl _ _⟩
  have ht := turn_setCells (b := b) (g := g) (n := l.length) (cap := cap) (i * 10 + j) vs w1
  exact (Turn.of_below hb).trans ht (Fresh.refl _ _)

abbrev BgP := @Bg En 153 97 10 mc
abbrev BgD := @Bg En 64 77 10 mc
theorem A34 : (Tryz.prog.info? 97).map (fun i => (i.zero, i.size, i.bytes)) = some (some (.agg (mcells m0)), 10, 80) := by kernel_rfl
theorem A39 : (Tryz.prog.info? 77).map (fun i => (i.zero, i.size, i.bytes)) = some (some (.agg (mcells m0)), 10, 80) := by kernel_rfl

end Go.Proofs.YtlfhkjjjocmpbaaGreatDoor.Wb

namespace Go.Proofs.YtlfhkjjjocmpbaaGreatDoor.Wb
open Go Go.RowKit

abbrev isF (p : Addr) : Value := .func (.func 135) #[] #[.pointer (some p)]
theorem isIt_any (x : En) (p : Addr) (line : Int) (w : World) (hp : w.cell? p = some (.int .i64 line)) :
    Calls Tryz.prog 135 #[.agg (mcells x), .pointer (some p)] w fun e w' => e = .returned (.bool (isL line x)) ∧ Below w.heap.size w w' := by
  have hp2 : ∀ o, (w.alloc o).cell? p = some (.int .i64 line) := fun o => Lib.cell?_alloc_some o hp
  have HT : Hid (isL line x = (x.ln == line)) := Lib.hid rfl
  have hb := balloc w (.cells (mcells x) 97)
  go_enter Tryz.func135, Tryz.ntmps135
  go_wp2
  go_ret
  exact ⟨ret_bool HT.out.symm, hb⟩

set_option maxHeartbeats 1000000 in
theorem indexFuncL (q : Option Addr) (l : List En) (cp : Nat) (p : Addr) (line : Int) (w : World) (hl : EnIn w q l) (hn : l.length ≤ 5000) (hp : w.cell? p = some (.int .i64 line)) (hpb : p.block < w.heap.size) :
    Calls Tryz.prog 134 #[.slice q l.length cp, isF p] w fun e w' => e = .returned (.int .i64 (oi (l.findIdx? (isL line)))) ∧ Below w.heap.size w w' := by
  have HL := Lib.hid hl
  have HP := Lib.hid hp
  clear hp
  clear hl
  go_enter Tryz.func134, Tryz.ntmps134
  go_wp2
  go_loopw [8] (fun i wr => ∃ k : Nat, k ≤ l.length ∧ i = .int .i64 k ∧ Hid (∀ (j : Nat) (x : En), j < k → l[j]? = some x → isL line x = false) ∧ Below w.heap.size w wr) (fun i _ => l.length - (intOf i).toNat)
  case atStart => exact ⟨0, by omega, rfl, Lib.hid (fun j x hj => by omega), Below.refl _ _⟩
  case round =>
    obtain ⟨k, hk, rfl, HJ, hb⟩ := hrel
    by_cases hlt : k < l.length
    · obtain ⟨x, hx⟩ : ∃ x, l[k]? = some x := ⟨_, List.getElem?_eq_getElem hlt⟩
      obtain ⟨g, rfl, hg, hr⟩ := HL.out.step hb k x hx
      have HR := Lib.hid hr
      have HC := Lib.hid ((hb.cell hpb).trans HP.out)
      have HX := Lib.hid hx
      clear hx hr
      go_wp2_with (first
        | ((with_reducible refine wpList_load_mid (op := ⟨some 15, _, _, _, _, _⟩) rfl 97 (.tmp 14) rfl g (k * 10) ?lx (mc x) _ ?lc Tryz.underlying97 ?ld ?li ?_); (case lx => rfl); (case lc => exact HR.out); (case ld => rfl); (case li => kernel_rfl))
        | (go_at_call 135; refine (isIt_any x p line _ HC.out).mono ?_; rintro e w1 ⟨rfl, hb1⟩))
      · have h : isL line x = true := by assumption
        go_ret
        exact ⟨ret_int (by rw [find_some HX.out h HJ.out]; rfl), bstep hb hb1⟩
      · have h : isL line x = false := by assumption
        have HK : Hid (∀ (j : Nat) (y : En), j < k + 1 → l[j]? = some y → isL line y = false) := Lib.hid (fun j y hj hy => by
          by_cases e : j = k
          · subst e
            obtain rfl : x = y := Option.some.inj (HX.out.symm.trans hy)
            exact h
          · exact HJ.out j y (by omega) hy)
        have hB := bstep hb hb1
        clear h
        go_roundw
        case rel => exact ⟨k + 1, by omega, by go_num, HK, hB⟩
        case measure => simp [intOf]; omega
    · have HK : Hid (oi (l.findIdx? (isL line)) = -1) := Lib.hid (by rw [find_none (fun j x hx => HJ.out j x (by have := (List.getElem?_eq_some_iff.1 hx).1; omega) hx)]; rfl)
      go_wp2
      go_ret
      exact ⟨ret_int HK.out.symm, hb⟩

theorem place_any {w : World} {B b : Nat} {room : Int} {l : List En} {v : Value} (h : BgP w B b room l v) (line : Int) (hn : l.length ≤ 5000) :
    Calls Tryz.prog 103 #[.pointer (some ⟨b, 0, none⟩), .int .i64 line] w fun e w' => e = .returned (.int .i64 (oi (fnd l line))) ∧ Below w.heap.size w w' := by
  have hb1 := h.below (balloc w (.cells #[.int .i64 line] 3))
  obtain ⟨q, cap, rfl, hin⟩ := hb1.ins
  have HC := Lib.hid (indexFuncL q l cap ⟨w.heap.size, 0, none⟩ line (w.alloc (.cells #[.int .i64 line] 3)) hin hn (by simp) (by simp))
  have c1 := blk_cell hb1.blk 1
  simp at c1
  have hmf : ∀ (fn : Fn) (first cap : Array Value) (w : World), (Instr.makeFunc fn first cap).run Tryz.prog w = .ok (.func fn first cap) w := fun _ _ _ _ => rfl
  clear h hb1 hin
  go_enter Tryz.func103, Tryz.ntmps103
  go_wp2_with (go_at_call 134; refine HC.out.mono ?_; rintro e w1 ⟨rfl, hb1⟩)
  go_ret
  exact ⟨rfl, bbox hb1⟩

end Go.Proofs.YtlfhkjjjocmpbaaGreatDoor.Wb

namespace Go.Proofs.YtlfhkjjjocmpbaaGreatDoor.Wb
open Go Go.RowKit

theorem new_no (room : Int) (w : World) (h : room < 1 ∨ 8 < room) :
    Calls Tryz.prog 31 #[.int .i64 room] w fun e w' => e = .returned (.tuple #[.pointer none, .int .i64 1]) ∧ w = w' := by
  rcases h with h | h
  · go_enter Tryz.func31, Tryz.ntmps31
    go_wp2
    go_ret2
    exact ⟨rfl, rfl⟩
  · have h1 : ¬ room < 1 := by omega
    go_enter Tryz.func31, Tryz.ntmps31
    go_wp2
    go_ret2
    exact ⟨rfl, rfl⟩
theorem new_yes (room : Int) (w : World) (h : 1 ≤ room) (h2 : room ≤ 8) :
    Calls Tryz.prog 31 #[.int .i64 room] w fun e w' => e = .returned (.tuple #[.pointer (some ⟨w.heap.size, 0, none⟩), .int .i64 0]) ∧ w.alloc (.cells #[.int .i64 room, .slice none 0 0] 153) = w' := by
  go_enter Tryz.func31, Tryz.ntmps31
  go_wp2
  go_ret2
  exact ⟨rfl, rfl⟩

theorem clone_any {w : World} {B : Nat} {v : Value} {l : List En} (h : w.ownsRow B 97 10 v l.length (cellsOf mc l)) (hl : l.length ≤ 5000) :
    Calls Tryz.prog 123 #[v] w (RowGave 97 10 mc l w) := by
  obtain ⟨i0, hi0, hz0, hz1, hz2⟩ := info_parts A34
  have hq := fun (w : World) (a : Option Addr) (n c n' c' : Nat) => Lib.run_eql_slice_nil (P := Tryz.prog) w 95 97 a n c n' c' Tryz.underlying95
  rcases h.2 with ⟨rfl, h0⟩ | ⟨g, cap, cur, rfl, hb, hg, rest⟩
  · have e : l = [] := List.eq_nil_of_length_eq_zero h0
    subst e
    clear h h0 hl
    go_enter Tryz.func123, Tryz.ntmps123
    go_wp2
    go_ret
    exact ⟨_, rfl, World.ownsRow_nil _ _ _ _, Below.refl _ _⟩
  · have hcell := h.cells (g := g) rfl
    have HC := Lib.hid hcell
    have HL := Lib.hid (cellsOf_len mc_len l)
    have H1 : Hid (∀ u ∈ cellsOf mc l, u.oneCell' = true) := Lib.hid (mcs_one l)
    clear h hcell hg rest
    go_enter Tryz.func123, Tryz.ntmps123
    go_wp2_with (at_builtin; refine wpList_append_own _ rfl (.tmp 5) (.tmp 6) 95 rfl w.heap.size 97 i0 (.agg (mcells m0)) 10 80 Tryz.underlying95 hi0 hz0 hz1 hz2 rfl (by decide) _ _ _ rfl (World.ownsRow_made w #[] 0 (Nat.le_refl _) (Nat.zero_le _) rfl) ⟨g, 0, none⟩ l.length cap (cellsOf mc l) rfl HL.out ?c1 H1.out ?c3 ?c4 ?c5 ?_)
    case c1 => exact fun j u hj => (Lib.cell?_alloc_some _ (HC.out j u hj))
    case c3 => simp only [maxLen]; omega
    case c4 => omega
    case c5 => simp
    intro v' w1 hown hgrow hnil
    go_wp2
    go_ret
    exact ⟨v', rfl, by simpa using hown, ((Below.refl _ w).alloc (Nat.le_refl _) _).grown hgrow (by simp) (by intro k hk; simp [Value.ownBlock] at hk; omega)⟩

theorem list_any {w : World} {B b : Nat} {room : Int} {l : List En} {v : Value} (h : BgP w B b room l v) (hl : l.length ≤ 5000) :
    Calls Tryz.prog 66 #[.pointer (some ⟨b, 0, none⟩)] w (RowGave 97 10 mc l w) := by
  have HC := Lib.hid (clone_any h.row hl)
  have c1 := blk_cell h.blk 1
  simp at c1
  clear h
  go_enter Tryz.func66, Tryz.ntmps66
  go_wp2_with (go_at_call 123; refine HC.out.mono ?_; rintro e w1 ⟨v', rfl, hown, hb⟩)
  go_ret
  exact ⟨v', rfl, hown, hb⟩

def RetM (x : En) (q : Bool) (P : World → Prop) (e : Ending) (w' : World) : Prop := e = .returned (.tuple #[.agg (mcells x), .bool q]) ∧ P w'
theorem get_ret {wr : World} {x : En} {q : Bool} {P : World → Prop} {a : Act} {g : Nat} (hp : a.tmps.getD 4 undef = .pointer (some ⟨g, 0, none⟩)) (hq : a.tmps.getD 5 undef = .bool q) (hd : a.defers = []) (hg : wr.heap[g]? = some (.cells (mcells x) 97 (0, 0))) (hb : P wr) :
    bodyPost Tryz.prog Tryz.f148 (RetM x q P) Exit.ret a wr :=
  bodyPost_ret (v := .tuple #[.agg (mcells x), a.tmps.getD 5 undef]) (results_cell_two Tryz.results148 _ _ g 97 _ (0, 0) _ hp hg Tryz.underlying97 rfl (by kernel_rfl)) hd ⟨by rw [hq], hb⟩

theorem left_any {w : World} {B b : Nat} {room : Int} {l : List En} {v : Value} (h : BgP w B b room l v) (h1 : 1 ≤ room) (h2 : room ≤ 8) (hl : l.length ≤ 8) :
    Calls Tryz.prog 52 #[.pointer (some ⟨b, 0, none⟩)] w fun e w' => e = .returned (.int .i64 (room - l.length)) ∧ ∃ n, w' = w.drewN n := by
  obtain ⟨p, cap, rfl, -⟩ := h.form
  have c0 := blk_cell h.blk 0
  have c1 := blk_cell h.blk 1
  simp at c0 c1
  clear h
  go_enter Tryz.func52, Tryz.ntmps52
  go_wp2
  go_quiet (fail)
  go_wp2
  go_ret
  exact ⟨rfl, _, rfl⟩

set_option maxHeartbeats 1000000 in

theorem get_any {w : World} {B b : Nat} {room : Int} {l : List En} {v : Value} (h : BgP w B b room l v) (line : Int) (hl : l.length ≤ 5000) :
    Calls Tryz.prog 148 #[.pointer (some ⟨b, 0, none⟩), .int .i64 line] w (RetM (getP l line).1 (getP l line).2 (Below w.heap.size w)) := by
  have HP := fun (o : Obj) => place_any (h.below (balloc w o)) line hl
  rcases hp : fnd l line with _ | i
  · rw [getP_none hp]
    rw [hp] at HP
    have HP := Lib.hid HP
    clear h hp
    go_enter Tryz.func148, Tryz.ntmps148
    go_wp2_with fail
    refine (HP.out _).mono ?_
    rintro e w1 ⟨rfl, hb1⟩
    simp only [oi]
    go_wp2_with ((with_reducible refine wpList_store_row (o := ⟨none, _, _, _, _, _⟩) rfl 97 (.tmp 4) (.tmp 12) rfl w.heap.size (mcells m0) ?sx ?sy 97 ?old ?sg ?si ?so ?s1 ?_); (case sx => rfl); (case sy => rfl); (case old => exact mcells m0); (case sg => exact box_at hb1); (case si => kernel_rfl); (case so => rfl); (case s1 => kernel_rfl))
    exact get_ret rfl rfl rfl (setRow_heap _ _ _ _ _ _ (box_at hb1)) (below_setRow (bbox hb1) (Nat.le_refl _) _)
  · obtain ⟨x, hx, _, hi⟩ := fnd_some hp
    rw [getP_yes hp hx]
    obtain ⟨g, cap, rfl, hbg, hgl, hBg, hr, hfz, _, _⟩ := h.one hx
    rw [hp] at HP
    have HP := Lib.hid HP
    have HC := Lib.hid (fun w1 (hb : Below w.heap.size w w1) => blk_cell (h.below hb).blk)
    have HR := Lib.hid (fun w1 (hb : Below w.heap.size w w1) => (show w1.rangeAt g (i * 10) (mc x) from fun j u hu => (hb.cell (p := ⟨g, i * 10 + j, none⟩) hgl).trans (hr j u hu)))
    have hni : ¬ (i : Int) < 0 := by omega
    clear h hp hx hr hfz
    go_enter Tryz.func148, Tryz.ntmps148
    go_wp2_with fail
    refine (HP.out _).mono ?_
    rintro e w1 ⟨rfl, hb1⟩
    simp only [oi]
    have c1 := HC.out _ (bbox hb1) 1
    simp at c1
    go_wp2_with (first
      | ((with_reducible refine wpList_load_mid (op := ⟨some 19, _, _, _, _, _⟩) rfl 97 (.tmp 18) rfl g (i * 10) ?lx (mc x) _ ?lc Tryz.underlying97 ?ld ?li ?_); (case lx => rfl); (case lc => exact HR.out _ (bbox hb1)); (case ld => rfl); (case li => kernel_rfl))
      | ((with_reducible refine wpList_store_row (o := ⟨none, _, _, _, _, _⟩) rfl 97 (.tmp 4) (.tmp 19) rfl w.heap.size (mcells x) ?sx ?sy 97 ?old ?sg ?si ?so ?s1 ?_); (case sx => rfl); (case sy => rfl); (case old => exact mcells m0); (case sg => exact box_at hb1); (case si => kernel_rfl); (case so => rfl); (case s1 => kernel_rfl)))
    exact get_ret rfl rfl rfl (setRow_heap _ _ _ _ _ _ (box_at hb1)) (below_setRow (bbox hb1) (Nat.le_refl _) _)

end Go.Proofs.YtlfhkjjjocmpbaaGreatDoor.Wb

namespace Go.Proofs.YtlfhkjjjocmpbaaGreatDoor.Wb
open Go Go.RowKit

structure GaveP (w : World) (B b : Nat) (room : Int) (v : Value) (r : Int × List En) (e : Ending) (w' : World) : Prop where
  res : e = .returned (.int .i64 r.1)
  put : PutGave 153 97 10 mc w B b room r.2 v w'

set_option maxHeartbeats 1000000 in
theorem put_twice {w : World} {B b : Nat} {room : Int} {l : List En} {v : Value} (h : BgP w B b room l v) (line : Int) (d : Wd) (hl : l.length ≤ 8) {i : Nat} (hp : fnd l line = some i) :
    Calls Tryz.prog 53 #[.pointer (some ⟨b, 0, none⟩), .int .i64 line, .agg (dcells d)] w fun e w' => e = .returned (.int .i64 6) ∧ Below w.heap.size w w' := by
  have HP := place_any (h.below (balloc w (.cells (dcells d) 36))) line (by omega)
  rw [hp] at HP
  have HP := Lib.hid HP
  have hni : (0 : Int) ≤ (i : Int) := by omega
  clear h hp
  go_enter Tryz.func53, Tryz.ntmps53
  go_wp2_with fail
  refine HP.out.mono ?_
  rintro e w1 ⟨rfl, hb1⟩
  simp only [oi]
  go_wp2
  go_ret
  exact ⟨rfl, bbox hb1⟩
set_option maxHeartbeats 1000000 in
theorem put_full {w : World} {B b : Nat} {room : Int} {l : List En} {v : Value} (h : BgP w B b room l v) (line : Int) (d : Wd) (h1 : 1 ≤ room) (h2 : room ≤ 8) (hl : l.length ≤ 8) (hp : fnd l line = none) (hf : (l.length : Int) = room) :
    Calls Tryz.prog 53 #[.pointer (some ⟨b, 0, none⟩), .int .i64 line, .agg (dcells d)] w fun e w' => e = .returned (.int .i64 4) ∧ Below w.heap.size w w' := by
  have HP := place_any (h.below (balloc w (.cells (dcells d) 36))) line (by omega)
  rw [hp] at HP
  have HP := Lib.hid HP
  have HL := Lib.hid (fun w1 (hb : Below w.heap.size w w1) => left_any (h.below hb) h1 h2 hl)
  have hz : (room - (l.length : Int) == 0) = true := by simp; omega
  clear h hp hf
  go_enter Tryz.func53, Tryz.ntmps53
  go_wp2_with fail
  refine HP.out.mono ?_
  rintro e w1 ⟨rfl, hb1⟩
  simp only [oi]
  have hb2 := bbox hb1
  clear hb1
  go_wp2_with fail
  refine (HL.out _ hb2).mono ?_
  rintro e w2 ⟨rfl, n, rfl⟩
  go_wp2
  go_ret
  exact ⟨rfl, below_drewN hb2 _⟩
set_option maxRecDepth 100000 in
set_option maxHeartbeats 2000000 in
theorem put_yes {w : World} {B b : Nat} {room : Int} {l : List En} {v : Value} (h : BgP w B b room l v) (hB : B ≤ w.heap.size) (line : Int) (d : Wd) (h1 : 1 ≤ room) (h2 : room ≤ 8) (hl : l.length ≤ 8) (hp : fnd l line = none) (hf : ¬ (l.length : Int) = room) :
    Calls Tryz.prog 53 #[.pointer (some ⟨b, 0, none⟩), .int .i64 line, .agg (dcells d)] w fun e w' => e = .returned (.int .i64 0) ∧ PutGave 153 97 10 mc w B b room (l ++ [newE line d]) v w' := by
  obtain ⟨i0, hi, hz0, hz1, hz2⟩ := info_parts A34
  have HP := place_any (h.below (balloc w (.cells (dcells d) 36))) line (by omega)
  rw [hp] at HP
  have HP := Lib.hid HP
  have HL := Lib.hid (fun w1 (hb : Below w.heap.size w w1) => left_any (h.below hb) h1 h2 hl)
  have hz : (room - (l.length : Int) == 0) = false := by simp; omega
  have hlt := h.lt
  have H := Lib.hid h
  clear h hp hf
  go_enter Tryz.func53, Tryz.ntmps53
  go_wp2_with fail
  refine HP.out.mono ?_
  rintro e w1 ⟨rfl, hb1⟩
  simp only [oi]
  have hx0 := box_at hb1
  have hb2 := bbox hb1
  clear hb1
  go_wp2_with fail
  refine (HL.out _ hb2).mono ?_
  rintro e w2 ⟨rfl, n, rfl⟩
  go_wp2_with fail
  obtain ⟨w3, hw3⟩ : ∃ w3, w3 = w1.drewN n := ⟨_, rfl⟩
  have hb3 : Below w.heap.size w w3 := by rw [hw3]; exact below_drewN hb2 n
  have hx1 : w3.heap[w.heap.size]? = some (.cells (dcells d) 36 (0, 0)) := by rw [hw3]; exact hx0
  rw [← hw3]
  clear hw3 HL hb2 hx0 HP
  have H1 := Lib.hid (H.out.below hb3)
  have c1 := blk_cell H1.out.blk 1
  have f1 := blk_free H1.out.blk 1
  have hlt1 := H1.out.lt
  have cx := fun o => blk_cell hx1 o
  have hsz := hb3.size
  have HB1 := Lib.hid hb3
  simp at c1
  clear hb3 hx1
  go_region_law
    ((refine step_append_lies _ (by rfl) _ _ _ (by rfl) B 97 i0 _ 10 80 Tryz.underlying95 hi hz0 hz1 hz2 rfl (by omega) v l.length (cellsOf mc l) (by rfl) ((H1.out.row.alloc _).drew)
        ⟨w3.heap.size, 0, none⟩ 1 1 (mc (newE line d)) (by rfl) (by rfl) (World.news_of_block (cs := mcells (newE line d)) (t := 97) (fr := (0, 0)) (heap_alloc_new w3 _)) (mc_one _)
        (by omega) (by unfold maxLen; omega) (by omega) (by simp; omega) (w3.heap.size + 1) (by simp) ?_; intro gg cap w4 hown hgrow hat hlt2; have hb4 := put_blk H1.out (((Below.refl _ w3).alloc (Nat.le_refl _) _).drew) hgrow; have c2 := blk_cell hb4 1; have f2 := blk_free hb4 1; simp at c2; clear hb4))
  all_goals
    have R := put_gave H.out ((HB1.out.alloc hsz (.cells (mcells (newE line d)) 97)).drew) hown hgrow (hat.imp id fun h => by omega)
    clear hown hgrow hat hlt2
    go_wp2
    go_ret
    exact ⟨rfl, R⟩

theorem put_any {w : World} {B b : Nat} {room : Int} {l : List En} {v : Value} (h : BgP w B b room l v) (gd : Good room l) (hB : B ≤ w.heap.size) (line : Int) (d : Wd) :
    Calls Tryz.prog 53 #[.pointer (some ⟨b, 0, none⟩), .int .i64 line, .agg (dcells d)] w (GaveP w B b room v (putP room l line d)) := by
  have hl := gd.short
  rcases hp : fnd l line with _ | i
  · by_cases hf : (l.length : Int) = room
    · rw [putP_full d hp hf]
      exact (put_full h line d gd.r1 gd.r2 hl hp hf).mono fun e w' ⟨h1, h2⟩ => ⟨h1, gave_same h h2⟩
    · rw [putP_yes d hp hf]
      exact (put_yes h hB line d gd.r1 gd.r2 hl hp hf).mono fun e w' ⟨h1, h2⟩ => ⟨h1, h2⟩
  · rw [putP_twice d hp]
    exact (put_twice h line d hl hp).mono fun e w' ⟨h1, h2⟩ => ⟨h1, gave_same h h2⟩

end Go.Proofs.YtlfhkjjjocmpbaaGreatDoor.Wb

namespace Go.Proofs.YtlfhkjjjocmpbaaGreatDoor.Wb
open Go Go.RowKit

theorem step_append_row {P : Program} {ops : Array Oper} {o : Oper} {a : Act} {w : World} {K : Act → World → Prop} {Q : Exit → Act → World → Prop} {E : Prop}
    (hg : o.guard = none) (s x : Operand) (t : TypeId) (hop : o.op = Op.call { callee := Callee.builtin Builtin.append, args := #[s, x], argTypes := #[t, t] })
    (e : TypeId) (i : TypeInfo) (size : Nat) (h1 : P.underlying t = some (.slice e)) (h2 : P.info? e = some i) (h4 : i.size = size)
    (b n cap : Nat) (cur : Array Value) (hb : w.heap[b]? = some (.cells cur e (0, 0))) (hs : a.eval s = .slice (some ⟨b, 0, none⟩) n cap)
    (ad : Addr) (m c : Nat) (news : List Value) (hx : a.eval x = .slice (some ad) m c) (hn : news.length = m * size) (hc : ∀ j u, news[j]? = some u → w.cell? (ad.add j) = some u) (h1c : ∀ u ∈ news, u.oneCell' = true)
    (hroom : n + m ≤ cap) (hfit : n * size + news.length ≤ cur.size)
    (hK : K (a.put o.dst (.slice (some ⟨b, 0, none⟩) (n + m) cap)) (w.setRow b (cur.toList.take (n * size) ++ news ++ cur.toList.drop (n * size + news.length)).toArray)) :
    if Region.wanted o (yielded ops a.tmps) = true then Oper.wp P o a w K Q else E := by
  have hw : Region.wanted o (yielded ops a.tmps) = true := by simp [Region.wanted, hg]
  rw [if_pos hw]
  subst h4
  have hrun := run_append_room (P := P) w t o.type e i h1 h2 b n cap cur hb ad m c news hn hc h1c hroom hfit
  unfold Oper.wp
  simp [execOp, hop, resolve, invoke, builtin, hs, hx, hrun, Result.andThen]
  rw [List.append_assoc] at hK
  exact hK

theorem run_clear_row {P : Program} (w : World) (t e ty : TypeId) (z : Value) (ht : P.underlying t = some (.slice e)) (hv : ∀ w, (zeroValue e).run P w = .ok z w) (hz : ∀ u ∈ z.cells.toList, u.oneCell' = true) (g o c : Nat) (cur : Array Value) (hg : w.heap[g]? = some (.cells cur e (0, 0))) (hfit : o + z.cells.size ≤ cur.size) :
    (Builtin.clear_ #[t] ty #[.slice (some ⟨g, o, none⟩) 1 c]).run P w = .ok (.tuple #[]) (w.setRow g (cur.toList.take o ++ z.cells.toList ++ cur.toList.drop (o + z.cells.size)).toArray) := by
  have hzc : (Builtin.zeroCells z.cells 1).toList = z.cells.toList := by
    unfold Builtin.zeroCells
    apply List.ext_getElem
    · simp
    · intro k h1 h2
      have hk : k < z.cells.size := by simpa using h2
      simp [Nat.mod_eq_of_lt hk, hk]
  have hst := run_storeCells_at P g o e z.cells.toList 0 cur w hg (by simpa using hfit) hz
  simp only [Nat.add_zero] at hst
  simp [Builtin.clear_, run_underlying ht, hv, hzc, hst]

theorem del_list {α : Type} (c xs zs : List α) (a m s : Nat) (hx : c.take (a + m + s) = xs) (hc : a + m + s ≤ c.length) (hz : zs.length = s) :
    let nw := xs.drop (a + s)
    let A := c.take a ++ nw ++ c.drop (a + nw.length)
    let R := A.take (a + m) ++ zs ++ A.drop (a + m + s)
    nw.length = m ∧ A.length = c.length ∧ R.length = c.length ∧ R.take (a + m) = xs.take a ++ nw := by
  intro nw A R
  have hxl : xs.length = a + m + s := by rw [← hx, List.length_take, Nat.min_eq_left hc]
  have hn : nw.length = m := by show (xs.drop (a + s)).length = m; rw [List.length_drop]; omega
  have hA : A.length = c.length := by
    show (c.take a ++ nw ++ c.drop (a + nw.length)).length = _
    simp only [List.length_append, List.length_take, List.length_drop] at hn ⊢; omega
  have hAt : A.take (a + m) = c.take a ++ nw := by
    have hl : (c.take a ++ nw).length = a + m := by rw [List.length_append, List.length_take, hn]; omega
    show (c.take a ++ nw ++ c.drop (a + nw.length)).take (a + m) = _
    rw [← hl, List.take_left']
    rfl
  have hca : c.take a = xs.take a := by rw [← hx, List.take_take, Nat.min_eq_left (by omega)]
  refine ⟨hn, hA, ?_, ?_⟩
  · show (A.take (a + m) ++ zs ++ A.drop (a + m + s)).length = _
    rw [List.length_append, List.length_append, List.length_take, List.length_drop, hz, hA]; omega
  · have hl : (A.take (a + m)).length = a + m := by rw [List.length_take, hA]; omega
    show (A.take (a + m) ++ zs ++ A.drop (a + m + s)).take (a + m) = _
    rw [List.append_assoc, List.take_append_of_le_length (by omega), List.take_take, Nat.min_self, hAt, hca]

def DelGave {α : Type} (e : TypeId) (sz : Nat) (f : α → List Value) (B g n cap : Nat) (l : List α) (w : World) (x : Ending) (w' : World) : Prop :=
  x = .returned (.slice (some ⟨g, 0, none⟩) (n - 1) cap) ∧ w'.ownsRow B e sz (.slice (some ⟨g, 0, none⟩) (n - 1) cap) l.length (cellsOf f l) ∧ Only g w w'

theorem del_own {α : Type} {e sz : Nat} {f : α → List Value} (hf : ∀ x, (f x).length = sz) {w : World} {B g cap : Nat} {l : List α} {i : Nat} (hi : i < l.length) {cur zs : Array Value} (hB : B ≤ g) (hg : w.heap[g]? = some (.cells cur e (0, 0))) (hnc : l.length ≤ cap) (hcm : cap ≤ maxLen) (hcs : cur.size = cap * sz) (ht : cur.toList.take (l.length * sz) = cellsOf f l) (hz : zs.size = sz)
    {news : List Value} (hn : news = (cellsOf f l).drop ((i + 1) * sz)) {A R : Array Value} (hA : A = (cur.toList.take (i * sz) ++ news ++ cur.toList.drop (i * sz + news.length)).toArray)
    (hR : R = (A.toList.take ((i + (l.length - (i + 1))) * sz) ++ zs.toList ++ A.toList.drop ((i + (l.length - (i + 1))) * sz + zs.size)).toArray) (q : Nat) :
    DelGave e sz f B g l.length cap (l.eraseIdx i) w (.returned (.slice (some ⟨g, 0, none⟩) (i + (l.length - (i + 1))) cap)) ((((w.drewN q).setRow g A).setRow g R)) := by
  have hm : (i + (l.length - (i + 1))) = l.length - 1 := by omega
  have e1 : (i + (l.length - (i + 1))) * sz = i * sz + (l.length - (i + 1)) * sz := by rw [Nat.add_mul]
  have e2 : (i + 1) * sz = i * sz + sz := by rw [Nat.add_mul, Nat.one_mul]
  have e3 : l.length * sz = i * sz + (l.length - (i + 1)) * sz + sz := by
    have : l.length = i + (l.length - (i + 1)) + 1 := by omega
    conv => lhs; rw [this]
    rw [Nat.add_mul, Nat.add_mul, Nat.one_mul]
  have hcl : l.length * sz ≤ cap * sz := Nat.mul_le_mul_right _ hnc
  obtain ⟨d1, d2, d3, d4⟩ := del_list cur.toList (cellsOf f l) zs.toList (i * sz) ((l.length - (i + 1)) * sz) sz (by rw [← e3, ht]) (by simp; omega) (by simpa using hz)
  rw [← e2, ← hn] at d1 d2 d3 d4
  have hRl : R.toList = (cur.toList.take (i * sz) ++ news ++ cur.toList.drop (i * sz + news.length)).take (i * sz + (l.length - (i + 1)) * sz) ++ zs.toList ++ (cur.toList.take (i * sz) ++ news ++ cur.toList.drop (i * sz + news.length)).drop (i * sz + (l.length - (i + 1)) * sz + sz) := by
    rw [hR, hA, e1, hz]
  have hheap : (((w.drewN q).setRow g A).setRow g R).heap[g]? = some (.cells R e (0, 0)) := setRow_heap _ g _ R e _ (setRow_heap (w.drewN q) g _ A e _ hg)
  have hel : (l.eraseIdx i).length = l.length - 1 := List.length_eraseIdx_of_lt hi
  have hcell : (cellsOf f l).take (i * sz) ++ news = cellsOf f (l.eraseIdx i) := by
    rw [hn, cellsOf_take hf l i (by omega), cellsOf_drop hf l (i + 1) (by omega), ← cellsOf_append, List.eraseIdx_eq_take_drop_succ]
  refine ⟨by rw [hm], ⟨by rw [cellsOf_len hf], .inr ⟨g, cap, R, ?_, hB, hheap, ?_, hcm, ?_, ?_⟩⟩, ⟨rfl, rfl, rfl, by simp, fun c hc => ?_⟩⟩
  · rw [hel]
  · omega
  · rw [← hcs]
    have := congrArg List.length hRl
    rw [d3] at this
    simpa using this
  · rw [hel, ← hm, e1, hRl, d4, hcell]
  · exact (setRow_other _ g c R hc).trans (setRow_other (w.drewN q) g c A hc)

set_option maxRecDepth 100000 in
set_option maxHeartbeats 2000000 in

theorem del_at {w : World} {B g cap : Nat} {l : List En} (h : w.ownsRow B 97 10 (.slice (some ⟨g, 0, none⟩) l.length cap) l.length (cellsOf mc l)) (i j : Nat) (hj : j = i + 1) (hi : i < l.length) :
    Calls Tryz.prog 164 #[.slice (some ⟨g, 0, none⟩) l.length cap, .int .i64 i, .int .i64 j] w (DelGave 97 10 mc B g l.length cap (l.eraseIdx i) w) := by
  obtain ⟨i0, hi0, hz0, hz1, hz2⟩ := info_parts A34
  obtain ⟨hlen, hh⟩ := h
  obtain ⟨g', cap', cur, hv, hB, hg, hnc, hcm, hcs, ht⟩ : ∃ g' cap' cur, (Value.slice (some ⟨g, 0, none⟩) l.length cap) = .slice (some ⟨g', 0, none⟩) l.length cap' ∧ B ≤ g' ∧ w.heap[g']? = some (.cells cur 97 (0, 0)) ∧ l.length ≤ cap' ∧ cap' ≤ maxLen ∧ cur.size = cap' * 10 ∧ cur.toList.take (l.length * 10) = cellsOf mc l := by
    rcases hh with ⟨_, h0⟩ | h
    · omega
    · exact h
  obtain ⟨rfl, rfl⟩ : g = g' ∧ cap = cap' := by simpa using hv
  clear hv hh
  obtain ⟨news, hnews⟩ : ∃ news, news = (cellsOf mc l).drop ((i + 1) * 10) := ⟨_, rfl⟩
  have hnl : news.length = (l.length - (i + 1)) * 10 := by rw [hnews, List.length_drop, cellsOf_len mc_len]; omega
  obtain ⟨D, hD, hsrc⟩ : ∃ D : Addr, (if cap = j then some (⟨g, 0, none⟩ : Addr) else some ⟨g, j * 10, none⟩) = some D ∧ Hid (∀ t u, news[t]? = some u → w.drew.cell? (D.add t) = some u) := by
    by_cases hc : cap = j
    · refine ⟨⟨g, 0, none⟩, by simp [hc], fun t u hu => ?_⟩
      have h0 : news.length = 0 := by rw [hnl]; omega
      rw [List.length_eq_zero_iff.1 h0] at hu
      simp at hu
    · refine ⟨⟨g, j * 10, none⟩, by simp [hc], fun t u hu => ?_⟩
      have ht' : t < (l.length - (i + 1)) * 10 := by
        have := (List.getElem?_eq_some_iff.1 hu).1
        omega
      rw [Addr.add_lit]
      show w.cell? _ = _
      rw [blk_cell hg]
      rw [hnews, List.getElem?_drop, ← ht, List.getElem?_take, if_pos (by omega)] at hu
      simpa [hj] using hu
  obtain ⟨A, hA⟩ : ∃ A, A = (cur.toList.take (i * 10) ++ news ++ cur.toList.drop (i * 10 + news.length)).toArray := ⟨_, rfl⟩
  obtain ⟨R, hR⟩ : ∃ R, R = (A.toList.take ((i + (l.length - (i + 1))) * 10) ++ (mcells m0).toList ++ A.toList.drop ((i + (l.length - (i + 1))) * 10 + (mcells m0).size)).toArray := ⟨_, rfl⟩
  have hAs : A.size = cap * 10 := by
    rw [hA]
    simp only [List.size_toArray, List.length_append, List.length_take, List.length_drop, hnl, Array.length_toList, hcs]
    omega
  have s2 : Hid (∀ u ∈ news, u.oneCell' = true) := by
    intro u hu
    rw [hnews] at hu
    exact mcs_one l u (List.mem_of_mem_drop hu)
  have HE := Lib.hid (fun q => del_own mc_len hi hB hg hnc hcm hcs ht (zs := (mcells m0)) rfl hnews hA hR q)
  obtain ⟨W1, hW1⟩ : ∃ W1, W1 = w.drew.setRow g A := ⟨_, rfl⟩
  have hg1 : W1.heap[g]? = some (.cells A 97 (0, 0)) := by rw [hW1]; exact setRow_heap w.drew g _ A _ _ hg
  have hv23 : ∀ w : World, (zeroValue 97).run Tryz.prog w = .ok (.agg (mcells m0)) w := fun w => by kernel_rfl
  have hcl : ∀ ty c, (Builtin.clear_ #[95] ty #[.slice (some ⟨g, (i + (l.length - (i + 1))) * 10, none⟩) 1 c]).run Tryz.prog W1 = .ok (.tuple #[]) (W1.setRow g R) := by
    intro ty c
    have := run_clear_row (P := Tryz.prog) W1 95 97 ty (.agg (mcells m0)) Tryz.underlying95 hv23 (by intro u hu; exact mc_one m0 u (by simpa [mc, Value.cells] using hu)) g ((i + (l.length - (i + 1))) * 10) c A hg1 (by rw [hAs]; simp [Value.cells]; omega)
    rw [this, hR]
    simp [Value.cells]
  have HW := Lib.hid hW1
  have HA := Lib.hid hA
  have hHg := Lib.hid (show w.drew.heap[g]? = some (.cells cur 97 (0, 0)) from hg)
  have s1 := Lib.hid hnl
  have s4 : Hid (i * 10 + news.length ≤ cur.size) := by show i * 10 + news.length ≤ cur.size; rw [hnl, hcs]; omega
  rw [← hj] at hcl s1 HE
  have k1 : i < j := by omega
  have k2 : i ≤ cap := by omega
  have k3 : ¬ cap = i + (l.length - j) := by omega
  have k4 : i + (l.length - j) ≤ l.length := by omega
  have k5 : l.length - (i + (l.length - j)) = 1 := by omega
  have k6 : j ≤ l.length := by omega
  have k7 : j ≤ cap := by omega
  have k8 : i + (l.length - j) ≤ cap := by omega
  have hj' := Lib.hid hj
  clear hj hlen hg ht hnews hA hR hAs hW1 hg1 hcs
  go_enter Tryz.func164, Tryz.ntmps164
  go_wp2_with fail
  go_region_law (refine step_append_row rfl (.tmp 22) (.tmp 25) 95 rfl 97 i0 10 Tryz.underlying95 hi0 hz1 g i cap cur hHg.out (by simp [Act.eval, Act.put]) D (l.length - j) (cap - j) news (by simp [Act.eval, Act.put]) s1.out hsrc.out s2.out (by omega) s4.out ?_; rw [← HA.out, ← HW.out])
  go_wp2
  go_ret
  have := HE.out 1
  rw [HW.out]
  exact this

theorem drop_own {T e : TypeId} {w w1 w2 : World} {B b g cap : Nat} {room : Int} {l : List En} {i : Nat} (h : Bg T e 10 mc w B b room l (.slice (some ⟨g, 0, none⟩) l.length cap)) (hb : Below w.heap.size w w1) (hown : w2.ownsRow B e 10 (.slice (some ⟨g, 0, none⟩) (l.length - 1) cap) (l.eraseIdx i).length (cellsOf mc (l.eraseIdx i))) (ho : Only g w1 w2) :
    PutGave T e 10 mc w B b room (l.eraseIdx i) (.slice (some ⟨g, 0, none⟩) l.length cap) (w2.setCell ⟨b, 1, none⟩ (.slice (some ⟨g, 0, none⟩) (l.length - 1) cap)) := by
  have hgb : b ≠ g := fun e => h.off (by rw [e]; rfl)
  have hbl := h.lt
  have hb2 : w2.heap[b]? = some (.cells #[.int .i64 room, .slice (some ⟨g, 0, none⟩) l.length cap] T (0, 0)) := (ho.other b hgb).trans ((hb.block b hbl).trans h.blk)
  refine ⟨.slice (some ⟨g, 0, none⟩) (l.length - 1) cap, ⟨?_, ?_, h.off, h.big⟩, ⟨?_, ?_, ?_, ?_, fun k hk k1 k2 => ?_⟩, fun k hk => .inl hk⟩
  · rw [heap_setCell_same w2 b 1 _ _ _ hb2]
    rfl
  · refine own_block hown fun k hk => ?_
    simp only [Value.ownBlock, Option.some.injEq] at hk
    exact heap_setCell_other _ _ _ _ (by simp only; omega)
  · exact ho.os.trans hb.os
  · exact ho.tape.trans hb.tape
  · exact ho.output.trans hb.output
  · have h3 := hb.size; have h4 := ho.size; simp [World.setCell]; omega
  · exact (heap_setCell_other _ _ _ _ k1).trans ((ho.other k (fun e => k2 (by rw [e]; rfl))).trans (hb.block k hk))

set_option maxHeartbeats 1000000 in
theorem drop_none {w : World} {B b : Nat} {room : Int} {l : List En} {v : Value} (h : BgP w B b room l v) (line : Int) (hl : l.length ≤ 8) (hp : fnd l line = none) :
    Calls Tryz.prog 145 #[.pointer (some ⟨b, 0, none⟩), .int .i64 line] w fun e w' => e = .returned (.int .i64 5) ∧ Below w.heap.size w w' := by
  have HP := place_any h line (by omega)
  rw [hp] at HP
  have HP := Lib.hid HP
  clear h hp
  go_enter Tryz.func145, Tryz.ntmps145
  go_wp2_with fail
  refine HP.out.mono ?_
  rintro e w1 ⟨rfl, hb1⟩
  simp only [oi]
  go_wp2
  go_ret
  exact ⟨rfl, hb1⟩
set_option maxHeartbeats 1000000 in
theorem drop_yes {w : World} {B b : Nat} {room : Int} {l : List En} {g cap : Nat} (h : BgP w B b room l (.slice (some ⟨g, 0, none⟩) l.length cap)) (line : Int) (hl : l.length ≤ 8) {i : Nat} (hp : fnd l line = some i) (hi : i < l.length) :
    Calls Tryz.prog 145 #[.pointer (some ⟨b, 0, none⟩), .int .i64 line] w fun e w' => e = .returned (.int .i64 0) ∧ PutGave 153 97 10 mc w B b room (l.eraseIdx i) (.slice (some ⟨g, 0, none⟩) l.length cap) w' := by
  have HP := place_any h line (by omega)
  rw [hp] at HP
  have HP := Lib.hid HP
  have hni : ¬ (i : Int) < 0 := by omega
  have hgb : b ≠ g := fun e => h.off (by rw [e]; rfl)
  have HC := Lib.hid (fun w1 (hb : Below w.heap.size w w1) => blk_cell (h.below hb).blk)
  have HD : Hid (∀ w1, Below w.heap.size w w1 → Calls Tryz.prog 164 #[.slice (some ⟨g, 0, none⟩) l.length cap, .int .i64 i, .int .i64 ((i : Int) + 1)] w1 (DelGave 97 10 mc B g l.length cap (l.eraseIdx i) w1)) := Lib.hid (fun w1 hb => by
    have := del_at (h.below hb).row i (i + 1) rfl hi
    rwa [show ((i + 1 : Nat) : Int) = (i : Int) + 1 by omega] at this)
  have HF : Hid (∀ w1 w2, Below w.heap.size w w1 → Only g w1 w2 → w2.heap[b]? = some (.cells #[.int .i64 room, .slice (some ⟨g, 0, none⟩) l.length cap] 153 (0, 0))) := Lib.hid (fun w1 w2 hb ho => (ho.other b hgb).trans (h.below hb).blk)
  have HE := Lib.hid (fun w1 w2 (hb : Below w.heap.size w w1) hown ho => drop_own (w2 := w2) (i := i) h hb hown ho)
  clear h hp
  go_enter Tryz.func145, Tryz.ntmps145
  go_wp2_with fail
  refine HP.out.mono ?_
  rintro e w1 ⟨rfl, hb1⟩
  simp only [oi]
  have c1 := HC.out _ hb1 1
  simp at c1
  go_wp2_with fail
  refine (HD.out _ hb1).mono ?_
  rintro e w2 ⟨rfl, hown, ho⟩
  have hbk := HF.out _ _ hb1 ho
  have R := Lib.hid (HE.out _ _ hb1 hown ho)
  have c2 := blk_cell hbk 1
  have f2 := blk_free hbk 1
  simp at c2
  clear hown ho hbk c1
  go_wp2
  go_ret
  exact ⟨rfl, R.out⟩

theorem drop_any {w : World} {B b : Nat} {room : Int} {l : List En} {v : Value} (h : BgP w B b room l v) (line : Int) (hl : l.length ≤ 8) :
    Calls Tryz.prog 145 #[.pointer (some ⟨b, 0, none⟩), .int .i64 line] w (GaveP w B b room v (dropP l line)) := by
  rcases hp : fnd l line with _ | i
  · rw [dropP_none hp]
    exact (drop_none h line hl hp).mono fun e w' ⟨h1, h2⟩ => ⟨h1, gave_same h h2⟩
  · obtain ⟨x, hx, _, hi⟩ := fnd_some hp
    obtain ⟨g, cap, rfl, _⟩ := h.one hx
    rw [dropP_yes hp]
    exact (drop_yes h line hl hp hi).mono fun e w' ⟨h1, h2⟩ => ⟨h1, h2⟩

end Go.Proofs.YtlfhkjjjocmpbaaGreatDoor.Wb

namespace Go.Proofs.YtlfhkjjjocmpbaaGreatDoor.Wb
open Go Go.RowKit

theorem wpList_load_at {P : Program} {ops : Array Oper} {rest : List Oper} {op : Oper} {a : Act} {w : World} {Q : Exit → Act → World → Prop} (hgd : op.guard = none) (ty : TypeId) (x : Operand) (ho : op.op = .load ty x)
    (b o : Nat) (hx : a.eval x = .pointer (some ⟨b, o, none⟩)) (cs : Array Value) (d : TypeDesc) (hc : w.rangeAt b o cs.toList)
    (hu : P.underlying ty = some d) (hd : d.isRow = true) (hi : (P.info? ty).map (·.size) = some cs.size)
    (h : wpList P ops Q rest (a.put op.dst (.agg cs)) w) : wpList P ops Q (op :: rest) a w :=
  wpList_load_mid hgd ty x ho b o hx cs.toList d hc hu hd (by simpa using hi) (by simpa using h)

structure At1 (w : World) (g i : Nat) (x : En) : Prop where
  lt : g < w.heap.size
  row : w.rangeAt g (i * 10) (mc x)
  fz : ∀ o, w.frozen? ⟨g, o, none⟩ = false
theorem Bg.at1 {T e : TypeId} {w : World} {B b : Nat} {room : Int} {l : List En} {g cap : Nat} (h : Bg T e 10 mc w B b room l (.slice (some ⟨g, 0, none⟩) l.length cap)) {i : Nat} {x : En} (hx : l[i]? = some x) : At1 w g i x := by
  obtain ⟨g', cap', e0, _, hg, _, hr, hf, _, _⟩ := h.one hx
  obtain ⟨rfl, rfl⟩ : g = g' ∧ cap = cap' := by simpa using e0
  exact ⟨hg, hr, hf⟩
theorem PutGave.after {T e : TypeId} {w w1 w2 : World} {B b : Nat} {room : Int} {l : List En} {v : Value} (h : PutGave T e 10 mc w1 B b room l v w2) (hb : Below w.heap.size w w1) : PutGave T e 10 mc w B b room l v w2 := by
  obtain ⟨v', h1, h2, h3⟩ := h
  exact ⟨v', h1, (Turn.of_below hb).trans h2 (Fresh.refl _ _), fun k hk => (h3 k hk).imp id fun h4 => Nat.le_trans hb.size h4⟩

theorem gave_box {T e : TypeId} {w w2 : World} {B b : Nat} {room : Int} {l m : List En} {v : Value} {o : Obj} (h : Bg T e 10 mc w B b room l v) (hp : PutGave T e 10 mc (w.alloc o) B b room m v w2) : w2.heap[w.heap.size]? = some o ∧ ∀ cs, PutGave T e 10 mc w B b room m v (w2.setRow w.heap.size cs) := by
  obtain ⟨v', h1, h2, h3⟩ := hp
  have hbl := h.lt
  have hsz : (w.alloc o).heap.size = w.heap.size + 1 := by simp
  have h2s := h2.size
  refine ⟨(h2.other w.heap.size (by omega) (by omega) (fun e => by have := (h.row.lt _ e).2; omega)).trans (heap_alloc_new w o), fun cs => ⟨v', ?_, ⟨h2.os, h2.tape, h2.output, by simp; omega, fun k hk k1 k2 => ?_⟩, fun k hk => (h3 k hk).imp id fun h4 => by omega⟩⟩
  · refine h1.keep (setRow_other _ _ b cs (by omega)) fun k hk => setRow_other _ _ k cs ?_
    rcases h3 k hk with e | e
    · have := (h.row.lt _ e).2; omega
    · omega
  · exact (setRow_other _ _ k cs (by omega)).trans ((h2.other k (by omega) k1 k2).trans (Below.heap_alloc w o k hk))
theorem words_of {w : World} {g i : Nat} {x : En} (h : w.rangeAt g (i * 10) (mc x)) : w.rangeAt g (i * 10 + 1) (dcells x.wd).toList := fun j u hu => by
  have hj : j < 8 := (List.getElem?_eq_some_iff.1 hu).1
  rw [Nat.add_assoc]
  refine h (1 + j) u ?_
  rw [← hu]
  rcases (show j = 0 ∨ j = 1 ∨ j = 2 ∨ j = 3 ∨ j = 4 ∨ j = 5 ∨ j = 6 ∨ j = 7 by omega) with rfl | rfl | rfl | rfl | rfl | rfl | rfl | rfl
  all_goals rfl
theorem set_at {l : List En} {i : Nat} {x : En} (hx : l[i]? = some x) (y : En) : (l.set i y)[i]? = some y := by
  have := (List.getElem?_eq_some_iff.1 hx).1
  simp [this]

def RetW (d : Wd) (n : Int) (P : World → Prop) (e : Ending) (w' : World) : Prop := e = .returned (.tuple #[.agg (dcells d), .int .i64 n]) ∧ P w'

def GaveW (w : World) (B b : Nat) (room : Int) (v : Value) (r : (Wd × Int) × List En) : Ending → World → Prop := RetW r.1.1 r.1.2 (PutGave 153 97 10 mc w B b room r.2 v)
theorem ans_ret {wr : World} {d : Wd} {n : Int} {P : World → Prop} {a : Act} {g : Nat} (hp : a.tmps.getD 6 undef = .pointer (some ⟨g, 0, none⟩)) (hn : a.tmps.getD 7 undef = .int .i64 n) (hd : a.defers = []) (hg : wr.heap[g]? = some (.cells (dcells d) 36 (0, 0))) (hb : P wr) :
    bodyPost Tryz.prog Tryz.f153 (RetW d n P) Exit.ret a wr :=
  bodyPost_ret (v := .tuple #[.agg (dcells d), a.tmps.getD 7 undef]) (results_cell_two Tryz.results153 _ _ g 36 _ (0, 0) _ hp hg Tryz.underlying36 rfl (by kernel_rfl)) hd ⟨by rw [hn], hb⟩
theorem share_ret {wr : World} {d : Wd} {n : Int} {P : World → Prop} {a : Act} {g : Nat} (hp : a.tmps.getD 4 undef = .pointer (some ⟨g, 0, none⟩)) (hn : a.tmps.getD 5 undef = .int .i64 n) (hd : a.defers = []) (hg : wr.heap[g]? = some (.cells (dcells d) 36 (0, 0))) (hb : P wr) :
    bodyPost Tryz.prog Tryz.f137 (RetW d n P) Exit.ret a wr :=
  bodyPost_ret (v := .tuple #[.agg (dcells d), a.tmps.getD 5 undef]) (results_cell_two Tryz.results137 _ _ g 36 _ (0, 0) _ hp hg Tryz.underlying36 rfl (by kernel_rfl)) hd ⟨by rw [hn], hb⟩
theorem give_ret {wr : World} {d : Wd} {n : Int} {P : World → Prop} {a : Act} {g : Nat} (hp : a.tmps.getD 4 undef = .pointer (some ⟨g, 0, none⟩)) (hn : a.tmps.getD 5 undef = .int .i64 n) (hd : a.defers = []) (hg : wr.heap[g]? = some (.cells (dcells d) 36 (0, 0))) (hb : P wr) :
    bodyPost Tryz.prog Tryz.f138 (RetW d n P) Exit.ret a wr :=
  bodyPost_ret (v := .tuple #[.agg (dcells d), a.tmps.getD 5 undef]) (results_cell_two Tryz.results138 _ _ g 36 _ (0, 0) _ hp hg Tryz.underlying36 rfl (by kernel_rfl)) hd ⟨by rw [hn], hb⟩

abbrev shV : Value := .func (.func 154) #[] #[]
abbrev giV : Value := .func (.func 155) #[] #[]
theorem share1 {w : World} {B b : Nat} {room : Int} {l : List En} {g cap : Nat} (h : BgP w B b room l (.slice (some ⟨g, 0, none⟩) l.length cap)) {i : Nat} {x : En} (hx : l[i]? = some x) :
    Calls Tryz.prog 154 #[.pointer (some ⟨g, i * 10, none⟩)] w fun e w' => (∃ v, e = .returned v) ∧ PutGave 153 97 10 mc w B b room (l.set i (id x)) (.slice (some ⟨g, 0, none⟩) l.length cap) w' ∧ w'.rangeAt g (i * 10 + 1) (dcells x.wd).toList := by
  have R := Lib.hid (gave_same h (Below.refl _ _))
  have HW := Lib.hid (words_of (h.at1 hx).row)
  rw [show l.set i (id x) = l from set_same hx]
  clear h hx
  go_enter Tryz.func154, Tryz.ntmps154
  go_wp2
  go_end0
  exact ⟨⟨_, rfl⟩, R.out, HW.out⟩
theorem give1 {w : World} {B b : Nat} {room : Int} {l : List En} {g cap : Nat} (h : BgP w B b room l (.slice (some ⟨g, 0, none⟩) l.length cap)) {i : Nat} {x : En} (hx : l[i]? = some x) :
    Calls Tryz.prog 155 #[.pointer (some ⟨g, i * 10, none⟩)] w fun e w' => (∃ v, e = .returned v) ∧ PutGave 153 97 10 mc w B b room (l.set i (gone x)) (.slice (some ⟨g, 0, none⟩) l.length cap) w' ∧ w'.rangeAt g (i * 10 + 1) (dcells x.wd).toList := by
  have ho : ∀ m, m < 10 → m < 9 ∨ 9 + 1 ≤ m → (mc (gone x))[m]? = (mc x)[m]? := fun m hm hm2 => by
    rcases (show m = 0 ∨ m = 1 ∨ m = 2 ∨ m = 3 ∨ m = 4 ∨ m = 5 ∨ m = 6 ∨ m = 7 ∨ m = 8 by omega) with rfl | rfl | rfl | rfl | rfl | rfl | rfl | rfl | rfl
    all_goals rfl
  have hn : ∀ m, m < [Value.bool false].length → (mc (gone x))[9 + m]? = [Value.bool false][m]? := fun m hm => by simp at hm; subst hm; rfl
  have R : Hid (PutGave 153 97 10 mc w B b room (l.set i (gone x)) (.slice (some ⟨g, 0, none⟩) l.length cap) (w.setCell ⟨g, i * 10 + 9, none⟩ (.bool false))) := Lib.hid (gave_store h (Below.refl _ _) hx (gone x) 9 [.bool false] (by simp) hn ho)
  have HW : Hid ((w.setCell ⟨g, i * 10 + 9, none⟩ (.bool false)).rangeAt g (i * 10 + 1) (dcells x.wd).toList) := Lib.hid (by
    have hs : BgP (w.setCell ⟨g, i * 10 + 9, none⟩ (.bool false)) B b room (l.set i (gone x)) (.slice (some ⟨g, 0, none⟩) l.length cap) := h.store hx (gone x) 9 [.bool false] (by simp) hn ho
    have hs' : BgP (w.setCell ⟨g, i * 10 + 9, none⟩ (.bool false)) B b room (l.set i (gone x)) (.slice (some ⟨g, 0, none⟩) (l.set i (gone x)).length cap) := by rw [List.length_set]; exact hs
    exact words_of (x := gone x) (hs'.at1 (set_at hx (gone x))).row)
  have ha := h.at1 hx
  have c9 := ha.row 9 _ rfl
  have f9 := ha.fz (i * 10 + 9)
  clear h hx ho hn ha
  go_enter Tryz.func155, Tryz.ntmps155
  go_wp2
  go_end0
  exact ⟨⟨_, rfl⟩, R.out, HW.out⟩

set_option maxHeartbeats 2000000 in
theorem ansS_none {w : World} {B b : Nat} {room : Int} {l : List En} {v : Value} (h : BgP w B b room l v) (line : Int) (hl : l.length ≤ 8) (hp : fnd l line = none) :
    Calls Tryz.prog 153 #[.pointer (some ⟨b, 0, none⟩), .int .i64 line, shV] w (RetW d0 5 (Below w.heap.size w)) := by
  have HP := place_any (h.below (balloc w (.cells (dcells d0) 36))) line (by omega)
  rw [hp] at HP
  have HP := Lib.hid HP
  clear h hp
  go_enter Tryz.func153, Tryz.ntmps153
  go_wp2_with fail
  refine HP.out.mono ?_
  rintro e w1 ⟨rfl, hb1⟩
  simp only [oi]
  go_wp2_with ((with_reducible refine wpList_store_row (o := ⟨none, _, _, _, _, _⟩) rfl 36 (.tmp 6) (.tmp 15) rfl w.heap.size (dcells d0) ?sx ?sy 36 ?old ?sg ?si ?so ?s1 ?_); (case sx => rfl); (case sy => rfl); (case old => exact dcells d0); (case sg => exact box_at hb1); (case si => kernel_rfl); (case so => rfl); (case s1 => kernel_rfl))
  exact ans_ret rfl rfl rfl (setRow_heap _ _ _ _ _ _ (box_at hb1)) (below_setRow (bbox hb1) (Nat.le_refl _) _)
set_option maxHeartbeats 2000000 in
theorem ansS_no {w : World} {B b : Nat} {room : Int} {l : List En} {g cap : Nat} (h : BgP w B b room l (.slice (some ⟨g, 0, none⟩) l.length cap)) (line : Int) (hl : l.length ≤ 8) {i : Nat} {x : En} (hp : fnd l line = some i) (hx : l[i]? = some x) (ht : x.lv = false) :
    Calls Tryz.prog 153 #[.pointer (some ⟨b, 0, none⟩), .int .i64 line, shV] w (RetW d0 7 (Below w.heap.size w)) := by
  have HP := place_any (h.below (balloc w (.cells (dcells d0) 36))) line (by omega)
  rw [hp] at HP
  have HP := Lib.hid HP
  have hni : ¬ (i : Int) < 0 := by omega
  have hi := (List.getElem?_eq_some_iff.1 hx).1
  have HR : Hid (∀ w1, Below w.heap.size w w1 → w1.cell? ⟨b, 1, none⟩ = some (.slice (some ⟨g, 0, none⟩) l.length cap) ∧ w1.cell? ⟨g, i * 10 + 9, none⟩ = some (.bool false)) := Lib.hid (fun w1 hb => by
    refine ⟨blk_cell (h.below hb).blk 1, ?_⟩
    have := ((h.below hb).at1 hx).row 9 _ rfl
    rw [this]
    exact congrArg (fun z => some (Value.bool z)) ht)
  clear h hp hx ht
  go_enter Tryz.func153, Tryz.ntmps153
  go_wp2_with fail
  refine HP.out.mono ?_
  rintro e w1 ⟨rfl, hb1⟩
  simp only [oi]
  obtain ⟨c1, c9⟩ := HR.out _ (bbox hb1)
  go_wp2_with ((with_reducible refine wpList_store_row (o := ⟨none, _, _, _, _, _⟩) rfl 36 (.tmp 6) (.tmp 27) rfl w.heap.size (dcells d0) ?sx ?sy 36 ?old ?sg ?si ?so ?s1 ?_); (case sx => rfl); (case sy => rfl); (case old => exact dcells d0); (case sg => exact box_at hb1); (case si => kernel_rfl); (case so => rfl); (case s1 => kernel_rfl))
  exact ans_ret rfl rfl rfl (setRow_heap _ _ _ _ _ _ (box_at hb1)) (below_setRow (bbox hb1) (Nat.le_refl _) _)
set_option maxHeartbeats 2000000 in
theorem ansS_yes {w : World} {B b : Nat} {room : Int} {l : List En} {g cap : Nat} (h : BgP w B b room l (.slice (some ⟨g, 0, none⟩) l.length cap)) (line : Int) (hl : l.length ≤ 8) {i : Nat} {x : En} (hp : fnd l line = some i) (hx : l[i]? = some x) (ht : x.lv = true) :
    Calls Tryz.prog 153 #[.pointer (some ⟨b, 0, none⟩), .int .i64 line, shV] w (RetW x.wd 0 (PutGave 153 97 10 mc w B b room (l.set i (id x)) (.slice (some ⟨g, 0, none⟩) l.length cap))) := by
  have HP := place_any (h.below (balloc w (.cells (dcells d0) 36))) line (by omega)
  rw [hp] at HP
  have HP := Lib.hid HP
  have hni : ¬ (i : Int) < 0 := by omega
  have hi := (List.getElem?_eq_some_iff.1 hx).1
  have HR : Hid (∀ w1, Below w.heap.size w w1 → w1.cell? ⟨b, 1, none⟩ = some (.slice (some ⟨g, 0, none⟩) l.length cap) ∧ w1.cell? ⟨g, i * 10 + 9, none⟩ = some (.bool true)) := Lib.hid (fun w1 hb => by
    refine ⟨blk_cell (h.below hb).blk 1, ?_⟩
    have := ((h.below hb).at1 hx).row 9 _ rfl
    rw [this]
    exact congrArg (fun z => some (Value.bool z)) ht)
  have HC := Lib.hid (fun w1 (hb : Below w.heap.size w w1) => share1 (h.below hb) hx)
  have HE := Lib.hid (fun w2 (hp : PutGave 153 97 10 mc (w.alloc (.cells (dcells d0) 36)) B b room (l.set i (id x)) (.slice (some ⟨g, 0, none⟩) l.length cap) w2) => gave_box h hp)
  clear h hp hx ht
  go_enter Tryz.func153, Tryz.ntmps153
  go_wp2_with fail
  refine HP.out.mono ?_
  rintro e w1 ⟨rfl, hb1⟩
  simp only [oi]
  obtain ⟨c1, c9⟩ := HR.out _ (bbox hb1)
  go_wp2_with fail
  refine (HC.out _ (bbox hb1)).mono ?_
  rintro e w2 ⟨⟨v2, rfl⟩, R, hw⟩
  obtain ⟨h6, R2⟩ := HE.out _ (R.after hb1)
  have HW := Lib.hid hw
  have R2 := Lib.hid R2
  have H6 := Lib.hid h6
  clear R hw c1 c9
  go_wp2_with (first
    | ((with_reducible refine wpList_load_at (op := ⟨some 34, _, _, _, _, _⟩) rfl 36 (.tmp 33) rfl g (i * 10 + 1) ?lx (dcells x.wd) _ ?lc Tryz.underlying36 ?ld ?li ?_); (case lx => rfl); (case lc => exact HW.out); (case ld => rfl); (case li => kernel_rfl))
    | ((with_reducible refine wpList_store_row (o := ⟨none, _, _, _, _, _⟩) rfl 36 (.tmp 6) (.tmp 34) rfl w.heap.size (dcells x.wd) ?sx ?sy 36 ?old ?sg ?si ?so ?s1 ?_); (case sx => rfl); (case sy => rfl); (case old => exact dcells d0); (case sg => exact H6.out); (case si => kernel_rfl); (case so => rfl); (case s1 => kernel_rfl)))
  exact ans_ret rfl rfl rfl (setRow_heap _ _ _ _ _ _ H6.out) (R2.out _)
theorem ansS_any {w : World} {B b : Nat} {room : Int} {l : List En} {v : Value} (h : BgP w B b room l v) (line : Int) (hl : l.length ≤ 8) :
    Calls Tryz.prog 153 #[.pointer (some ⟨b, 0, none⟩), .int .i64 line, shV] w (GaveW w B b room v (ansP id l line)) := by
  rcases hp : fnd l line with _ | i
  · rw [ansP_none _ hp]
    exact (ansS_none h line hl hp).mono fun e w' ⟨h1, h2⟩ => ⟨h1, gave_same h h2⟩
  · obtain ⟨x, hx, _, hi⟩ := fnd_some hp
    obtain ⟨g, cap, rfl, _⟩ := h.one hx
    rcases Bool.eq_false_or_eq_true x.lv with ht | ht
    · rw [ansP_yes _ hp hx ht]
      exact (ansS_yes h line hl hp hx ht).mono fun e w' ⟨h1, h2⟩ => ⟨h1, h2⟩
    · rw [ansP_no _ hp hx ht]
      exact (ansS_no h line hl hp hx ht).mono fun e w' ⟨h1, h2⟩ => ⟨h1, gave_same h h2⟩
set_option maxHeartbeats 1000000 in

theorem share_any {w : World} {B b : Nat} {room : Int} {l : List En} {v : Value} (h : BgP w B b room l v) (line : Int) (hl : l.length ≤ 8) :
    Calls Tryz.prog 137 #[.pointer (some ⟨b, 0, none⟩), .int .i64 line] w (GaveW w B b room v (ansP id l line)) := by
  have HA := Lib.hid (ansS_any (h.below (balloc w (.cells (dcells d0) 36))) line hl)
  have HE := Lib.hid (fun w2 (hp : PutGave 153 97 10 mc (w.alloc (.cells (dcells d0) 36)) B b room (ansP id l line).2 v w2) => gave_box h hp)
  obtain ⟨dd, hd⟩ : ∃ dd, dd = (ansP id l line).1.1 := ⟨_, rfl⟩
  obtain ⟨nn, hn⟩ : ∃ nn, nn = (ansP id l line).1.2 := ⟨_, rfl⟩
  have HT : Hid (GaveW w B b room v (ansP id l line) = RetW dd nn (PutGave 153 97 10 mc w B b room (ansP id l line).2 v)) := Lib.hid (by rw [hd, hn]; rfl)
  have HA : Hid (Calls Tryz.prog 153 #[.pointer (some ⟨b, 0, none⟩), .int .i64 line, shV] (w.alloc (.cells (dcells d0) 36)) (RetW dd nn (PutGave 153 97 10 mc (w.alloc (.cells (dcells d0) 36)) B b room (ansP id l line).2 v))) := Lib.hid (by rw [hd, hn]; exact HA.out)
  clear h hd hn
  rw [HT.out]
  go_enter Tryz.func137, Tryz.ntmps137
  go_wp2_with fail
  refine HA.out.mono ?_
  rintro e w2 ⟨rfl, R⟩
  obtain ⟨h6, R2⟩ := HE.out _ R
  have R2 := Lib.hid R2
  have H6 := Lib.hid h6
  clear R
  go_wp2_with ((with_reducible refine wpList_store_row (o := ⟨none, _, _, _, _, _⟩) rfl 36 (.tmp 4) (.tmp 9) rfl w.heap.size (dcells dd) ?sx ?sy 36 ?old ?sg ?si ?so ?s1 ?_); (case sx => rfl); (case sy => rfl); (case old => exact dcells d0); (case sg => exact H6.out); (case si => kernel_rfl); (case so => rfl); (case s1 => kernel_rfl))
  exact share_ret rfl rfl rfl (setRow_heap _ _ _ _ _ _ H6.out) (R2.out _)

set_option maxHeartbeats 2000000 in
theorem ansG_none {w : World} {B b : Nat} {room : Int} {l : List En} {v : Value} (h : BgP w B b room l v) (line : Int) (hl : l.length ≤ 8) (hp : fnd l line = none) :
    Calls Tryz.prog 153 #[.pointer (some ⟨b, 0, none⟩), .int .i64 line, giV] w (RetW d0 5 (Below w.heap.size w)) := by
  have HP := place_any (h.below (balloc w (.cells (dcells d0) 36))) line (by omega)
  rw [hp] at HP
  have HP := Lib.hid HP
  clear h hp
  go_enter Tryz.func153, Tryz.ntmps153
  go_wp2_with fail
  refine HP.out.mono ?_
  rintro e w1 ⟨rfl, hb1⟩
  simp only [oi]
  go_wp2_with ((with_reducible refine wpList_store_row (o := ⟨none, _, _, _, _, _⟩) rfl 36 (.tmp 6) (.tmp 15) rfl w.heap.size (dcells d0) ?sx ?sy 36 ?old ?sg ?si ?so ?s1 ?_); (case sx => rfl); (case sy => rfl); (case old => exact dcells d0); (case sg => exact box_at hb1); (case si => kernel_rfl); (case so => rfl); (case s1 => kernel_rfl))
  exact ans_ret rfl rfl rfl (setRow_heap _ _ _ _ _ _ (box_at hb1)) (below_setRow (bbox hb1) (Nat.le_refl _) _)
set_option maxHeartbeats 2000000 in
theorem ansG_no {w : World} {B b : Nat} {room : Int} {l : List En} {g cap : Nat} (h : BgP w B b room l (.slice (some ⟨g, 0, none⟩) l.length cap)) (line : Int) (hl : l.length ≤ 8) {i : Nat} {x : En} (hp : fnd l line = some i) (hx : l[i]? = some x) (ht : x.lv = false) :
    Calls Tryz.prog 153 #[.pointer (some ⟨b, 0, none⟩), .int .i64 line, giV] w (RetW d0 7 (Below w.heap.size w)) := by
  have HP := place_any (h.below (balloc w (.cells (dcells d0) 36))) line (by omega)
  rw [hp] at HP
  have HP := Lib.hid HP
  have hni : ¬ (i : Int) < 0 := by omega
  have hi := (List.getElem?_eq_some_iff.1 hx).1
  have HR : Hid (∀ w1, Below w.heap.size w w1 → w1.cell? ⟨b, 1, none⟩ = some (.slice (some ⟨g, 0, none⟩) l.length cap) ∧ w1.cell? ⟨g, i * 10 + 9, none⟩ = some (.bool false)) := Lib.hid (fun w1 hb => by
    refine ⟨blk_cell (h.below hb).blk 1, ?_⟩
    have := ((h.below hb).at1 hx).row 9 _ rfl
    rw [this]
    exact congrArg (fun z => some (Value.bool z)) ht)
  clear h hp hx ht
  go_enter Tryz.func153, Tryz.ntmps153
  go_wp2_with fail
  refine HP.out.mono ?_
  rintro e w1 ⟨rfl, hb1⟩
  simp only [oi]
  obtain ⟨c1, c9⟩ := HR.out _ (bbox hb1)
  go_wp2_with ((with_reducible refine wpList_store_row (o := ⟨none, _, _, _, _, _⟩) rfl 36 (.tmp 6) (.tmp 27) rfl w.heap.size (dcells d0) ?sx ?sy 36 ?old ?sg ?si ?so ?s1 ?_); (case sx => rfl); (case sy => rfl); (case old => exact dcells d0); (case sg => exact box_at hb1); (case si => kernel_rfl); (case so => rfl); (case s1 => kernel_rfl))
  exact ans_ret rfl rfl rfl (setRow_heap _ _ _ _ _ _ (box_at hb1)) (below_setRow (bbox hb1) (Nat.le_refl _) _)
set_option maxHeartbeats 2000000 in
theorem ansG_yes {w : World} {B b : Nat} {room : Int} {l : List En} {g cap : Nat} (h : BgP w B b room l (.slice (some ⟨g, 0, none⟩) l.length cap)) (line : Int) (hl : l.length ≤ 8) {i : Nat} {x : En} (hp : fnd l line = some i) (hx : l[i]? = some x) (ht : x.lv = true) :
    Calls Tryz.prog 153 #[.pointer (some ⟨b, 0, none⟩), .int .i64 line, giV] w (RetW x.wd 0 (PutGave 153 97 10 mc w B b room (l.set i (gone x)) (.slice (some ⟨g, 0, none⟩) l.length cap))) := by
  have HP := place_any (h.below (balloc w (.cells (dcells d0) 36))) line (by omega)
  rw [hp] at HP
  have HP := Lib.hid HP
  have hni : ¬ (i : Int) < 0 := by omega
  have hi := (List.getElem?_eq_some_iff.1 hx).1
  have HR : Hid (∀ w1, Below w.heap.size w w1 → w1.cell? ⟨b, 1, none⟩ = some (.slice (some ⟨g, 0, none⟩) l.length cap) ∧ w1.cell? ⟨g, i * 10 + 9, none⟩ = some (.bool true)) := Lib.hid (fun w1 hb => by
    refine ⟨blk_cell (h.below hb).blk 1, ?_⟩
    have := ((h.below hb).at1 hx).row 9 _ rfl
    rw [this]
    exact congrArg (fun z => some (Value.bool z)) ht)
  have HC := Lib.hid (fun w1 (hb : Below w.heap.size w w1) => give1 (h.below hb) hx)
  have HE := Lib.hid (fun w2 (hp : PutGave 153 97 10 mc (w.alloc (.cells (dcells d0) 36)) B b room (l.set i (gone x)) (.slice (some ⟨g, 0, none⟩) l.length cap) w2) => gave_box h hp)
  clear h hp hx ht
  go_enter Tryz.func153, Tryz.ntmps153
  go_wp2_with fail
  refine HP.out.mono ?_
  rintro e w1 ⟨rfl, hb1⟩
  simp only [oi]
  obtain ⟨c1, c9⟩ := HR.out _ (bbox hb1)
  go_wp2_with fail
  refine (HC.out _ (bbox hb1)).mono ?_
  rintro e w2 ⟨⟨v2, rfl⟩, R, hw⟩
  obtain ⟨h6, R2⟩ := HE.out _ (R.after hb1)
  have HW := Lib.hid hw
  have R2 := Lib.hid R2
  have H6 := Lib.hid h6
  clear R hw c1 c9
  go_wp2_with (first
    | ((with_reducible refine wpList_load_at (op := ⟨some 34, _, _, _, _, _⟩) rfl 36 (.tmp 33) rfl g (i * 10 + 1) ?lx (dcells x.wd) _ ?lc Tryz.underlying36 ?ld ?li ?_); (case lx => rfl); (case lc => exact HW.out); (case ld => rfl); (case li => kernel_rfl))
    | ((with_reducible refine wpList_store_row (o := ⟨none, _, _, _, _, _⟩) rfl 36 (.tmp 6) (.tmp 34) rfl w.heap.size (dcells x.wd) ?sx ?sy 36 ?old ?sg ?si ?so ?s1 ?_); (case sx => rfl); (case sy => rfl); (case old => exact dcells d0); (case sg => exact H6.out); (case si => kernel_rfl); (case so => rfl); (case s1 => kernel_rfl)))
  exact ans_ret rfl rfl rfl (setRow_heap _ _ _ _ _ _ H6.out) (R2.out _)
theorem ansG_any {w : World} {B b : Nat} {room : Int} {l : List En} {v : Value} (h : BgP w B b room l v) (line : Int) (hl : l.length ≤ 8) :
    Calls Tryz.prog 153 #[.pointer (some ⟨b, 0, none⟩), .int .i64 line, giV] w (GaveW w B b room v (ansP gone l line)) := by
  rcases hp : fnd l line with _ | i
  · rw [ansP_none _ hp]
    exact (ansG_none h line hl hp).mono fun e w' ⟨h1, h2⟩ => ⟨h1, gave_same h h2⟩
  · obtain ⟨x, hx, _, hi⟩ := fnd_some hp
    obtain ⟨g, cap, rfl, _⟩ := h.one hx
    rcases Bool.eq_false_or_eq_true x.lv with ht | ht
    · rw [ansP_yes _ hp hx ht]
      exact (ansG_yes h line hl hp hx ht).mono fun e w' ⟨h1, h2⟩ => ⟨h1, h2⟩
    · rw [ansP_no _ hp hx ht]
      exact (ansG_no h line hl hp hx ht).mono fun e w' ⟨h1, h2⟩ => ⟨h1, gave_same h h2⟩
set_option maxHeartbeats 1000000 in

theorem give_any {w : World} {B b : Nat} {room : Int} {l : List En} {v : Value} (h : BgP w B b room l v) (line : Int) (hl : l.length ≤ 8) :
    Calls Tryz.prog 138 #[.pointer (some ⟨b, 0, none⟩), .int .i64 line] w (GaveW w B b room v (ansP gone l line)) := by
  have HA := Lib.hid (ansG_any (h.below (balloc w (.cells (dcells d0) 36))) line hl)
  have HE := Lib.hid (fun w2 (hp : PutGave 153 97 10 mc (w.alloc (.cells (dcells d0) 36)) B b room (ansP gone l line).2 v w2) => gave_box h hp)
  obtain ⟨dd, hd⟩ : ∃ dd, dd = (ansP gone l line).1.1 := ⟨_, rfl⟩
  obtain ⟨nn, hn⟩ : ∃ nn, nn = (ansP gone l line).1.2 := ⟨_, rfl⟩
  have HT : Hid (GaveW w B b room v (ansP gone l line) = RetW dd nn (PutGave 153 97 10 mc w B b room (ansP gone l line).2 v)) := Lib.hid (by rw [hd, hn]; rfl)
  have HA : Hid (Calls Tryz.prog 153 #[.pointer (some ⟨b, 0, none⟩), .int .i64 line, giV] (w.alloc (.cells (dcells d0) 36)) (RetW dd nn (PutGave 153 97 10 mc (w.alloc (.cells (dcells d0) 36)) B b room (ansP gone l line).2 v))) := Lib.hid (by rw [hd, hn]; exact HA.out)
  clear h hd hn
  rw [HT.out]
  go_enter Tryz.func138, Tryz.ntmps138
  go_wp2_with fail
  refine HA.out.mono ?_
  rintro e w2 ⟨rfl, R⟩
  obtain ⟨h6, R2⟩ := HE.out _ R
  have R2 := Lib.hid R2
  have H6 := Lib.hid h6
  clear R
  go_wp2_with ((with_reducible refine wpList_store_row (o := ⟨none, _, _, _, _, _⟩) rfl 36 (.tmp 4) (.tmp 9) rfl w.heap.size (dcells dd) ?sx ?sy 36 ?old ?sg ?si ?so ?s1 ?_); (case sx => rfl); (case sy => rfl); (case old => exact dcells d0); (case sg => exact H6.out); (case si => kernel_rfl); (case so => rfl); (case s1 => kernel_rfl))
  exact give_ret rfl rfl rfl (setRow_heap _ _ _ _ _ _ H6.out) (R2.out _)

end Go.Proofs.YtlfhkjjjocmpbaaGreatDoor.Wb
