/-
  A picture that is drawn: three rows of the call's own beside its boxes, and what one more thing in a row makes of it.
-/
import Derived.Test.YtlfhkjjjocmpbaaGreatDoorCcT
namespace Go.Proofs.YtlfhkjjjocmpbaaGreatDoor.Cc
open Go Go.RowKit

abbrev wayB : TypeId := 69
abbrev missB : TypeId := 75
abbrev entB : TypeId := 77
/-- Where a call of drawn is: so many ways, misses and entries are drawn. -/
structure Dr (w : World) (c : Cfg) (L : List Ar.Wy) (F : List Mh.Ms) (B : List Wb.En) (v1 v2 v3 : Value) (wr : World) : Prop where
  cc : wr.heap[w.heap.size]? = some (.cells (ccells c) 24 (0, 0))
  rr : wr.heap[w.heap.size + 1]? = some (.cells #[.slice none 0 0, .slice none 0 0, .slice none 0 0] 51 (0, 0))
  pp : wr.heap[w.heap.size + 2]? = some (.cells #[v1, v2, v3] 51 (0, 0))
  r1 : wr.ownsRow (w.heap.size + 3) wayB 11 v1 L.length (Mh.cellsOf Ar.yc L)
  r2 : wr.ownsRow (w.heap.size + 3) missB 15 v2 F.length (Mh.cellsOf Mh.mc F)
  r3 : wr.ownsRow (w.heap.size + 3) entB 10 v3 B.length (Mh.cellsOf Wb.mc B)
  d12 : ∀ k, v1.ownBlock = some k → v2.ownBlock = some k → False
  d13 : ∀ k, v1.ownBlock = some k → v3.ownBlock = some k → False
  d23 : ∀ k, v2.ownBlock = some k → v3.ownBlock = some k → False
  bl : Below w.heap.size w wr
variable {w wr w2 w3 : World} {c : Cfg} {L : List Ar.Wy} {F : List Mh.Ms} {B : List Wb.En} {v1 v2 v3 : Value}
theorem grown_of (hb : Below wr.heap.size wr w2) (row : Option Nat) : wr.grownBy w2 row := ⟨hb.os, hb.tape, hb.output, hb.size, fun k hk _ => hb.block k hk⟩
theorem own_step {base : Nat} {e : TypeId} {sz n : Nat} {v : Value} {xs : List Value} (h : wr.ownsRow base e sz v n xs) (hb : Below wr.heap.size wr w2) : w2.ownsRow base e sz v n xs :=
  h.kept (grown_of hb none) (by cases v.ownBlock <;> simp)
theorem Dr.step (h : Dr w c L F B v1 v2 v3 wr) (hb : Below wr.heap.size wr w2) : Dr w c L F B v1 v2 v3 w2 :=
  ⟨(hb.block _ (lt_blk h.cc)).trans h.cc, (hb.block _ (lt_blk h.rr)).trans h.rr, (hb.block _ (lt_blk h.pp)).trans h.pp, own_step h.r1 hb, own_step h.r2 hb, own_step h.r3 hb, h.d12, h.d13, h.d23, b_step h.bl hb⟩
theorem Dr.big (h : Dr w c L F B v1 v2 v3 wr) : w.heap.size + 3 ≤ wr.heap.size := lt_blk h.pp
theorem Dr.new (w : World) (c : Cfg) : Dr w c [] [] [] (.slice none 0 0) (.slice none 0 0) (.slice none 0 0) (((w.alloc (.cells (ccells c) 24)).alloc (.cells #[.slice none 0 0, .slice none 0 0, .slice none 0 0] 51)).alloc (.cells #[.slice none 0 0, .slice none 0 0, .slice none 0 0] 51)) := by
  have s1 : (w.alloc (.cells (ccells c) 24)).heap.size = w.heap.size + 1 := by simp
  have s2 : ((w.alloc (.cells (ccells c) 24)).alloc (.cells #[.slice none 0 0, .slice none 0 0, .slice none 0 0] 51)).heap.size = w.heap.size + 2 := by simp
  have n0 := heap_alloc_new w (.cells (ccells c) 24)
  have n1 := heap_alloc_new (w.alloc (.cells (ccells c) 24)) (.cells #[.slice none 0 0, .slice none 0 0, .slice none 0 0] 51)
  have n2 := heap_alloc_new ((w.alloc (.cells (ccells c) 24)).alloc (.cells #[.slice none 0 0, .slice none 0 0, .slice none 0 0] 51)) (.cells #[.slice none 0 0, .slice none 0 0, .slice none 0 0] 51)
  rw [s1] at n1
  rw [s2] at n2
  refine ⟨?_, ?_, n2, World.ownsRow_nil _ _ _ _, World.ownsRow_nil _ _ _ _, World.ownsRow_nil _ _ _ _, fun k hk => by simp [Value.ownBlock] at hk, fun k hk => by simp [Value.ownBlock] at hk, fun k hk => by simp [Value.ownBlock] at hk, (((Below.refl _ w).alloc (Nat.le_refl _) _).alloc (by omega) _).alloc (by omega) _⟩
  · rw [heap_alloc_old _ _ (by omega), heap_alloc_old _ _ (by omega)]; exact n0
  · rw [heap_alloc_old _ _ (by omega)]; exact n1
/-- What an append and the store of its row leave of what they don't touch. -/
theorem Dr.kept (h : Dr w c L F B v1 v2 v3 wr) {row : Option Nat} (hrow : ∀ k, row = some k → w.heap.size + 3 ≤ k) (hg : wr.grownBy w2 row) (hos : w3.os = w2.os ∧ w3.tape = w2.tape ∧ w3.output = w2.output ∧ w3.heap.size = w2.heap.size) (hk : ∀ k, k ≠ w.heap.size + 2 → w3.heap[k]? = w2.heap[k]?) :
    w3.heap[w.heap.size]? = some (.cells (ccells c) 24 (0, 0)) ∧ w3.heap[w.heap.size + 1]? = some (.cells #[.slice none 0 0, .slice none 0 0, .slice none 0 0] 51 (0, 0)) ∧ Below w.heap.size w w3 ∧ w2.grownBy w3 (some (w.heap.size + 2)) := by
  have hb := h.big
  refine ⟨?_, ?_, ⟨hos.1.trans (hg.os.trans h.bl.os), hos.2.1.trans (hg.tape.trans h.bl.tape), hos.2.2.1.trans (hg.output.trans h.bl.output), ?_, fun k hk0 => ?_⟩, ⟨hos.1, hos.2.1, hos.2.2.1, by omega, fun k _ hne => hk k (fun e => hne (by rw [e]))⟩⟩
  · exact (hk _ (by omega)).trans ((hg.block _ (lt_blk h.cc) (fun e => by have := hrow _ e.symm; omega)).trans h.cc)
  · exact (hk _ (by omega)).trans ((hg.block _ (lt_blk h.rr) (fun e => by have := hrow _ e.symm; omega)).trans h.rr)
  · have := hg.size; have := h.bl.size; omega
  · exact (hk _ (by omega)).trans ((hg.block _ (by omega) (fun e => by have := hrow _ e.symm; omega)).trans (h.bl.block k hk0))
theorem own_kept2 {base : Nat} {e : TypeId} {sz n m : Nat} {v : Value} {xs : List Value} (h : w2.ownsRow base e sz v n xs) (hg : w2.grownBy w3 (some m)) (hm : m < base) : w3.ownsRow base e sz v n xs :=
  h.kept hg (by
    rcases hv : v.ownBlock with _ | k
    · exact .inl rfl
    · refine .inr fun e => ?_
      have := (h.lt k hv).1
      obtain rfl := Option.some.inj e
      omega)
theorem own_kept1 {base : Nat} {e : TypeId} {sz n : Nat} {v u : Value} {xs : List Value} (h : wr.ownsRow base e sz v n xs) (hg : wr.grownBy w2 u.ownBlock) (hd : ∀ k, u.ownBlock = some k → v.ownBlock = some k → False) : w2.ownsRow base e sz v n xs :=
  h.kept hg (by
    rcases hv : v.ownBlock with _ | k
    · exact .inl rfl
    · exact .inr fun e => hd k e.symm hv)
theorem Dr.put1 (h : Dr w c L F B v1 v2 v3 wr) {x : Ar.Wy} {u : Value} (hg : wr.grownBy w2 v1.ownBlock) (hown : w2.ownsRow (w.heap.size + 3) wayB 11 u (L.length + 1) (Mh.cellsOf Ar.yc L ++ Ar.yc x)) (hat : ∀ k, u.ownBlock = some k → v1.ownBlock = some k ∨ k = wr.heap.size)
    (hp : w3.heap[w.heap.size + 2]? = some (.cells #[u, v2, v3] 51 (0, 0))) (hos : w3.os = w2.os ∧ w3.tape = w2.tape ∧ w3.output = w2.output ∧ w3.heap.size = w2.heap.size) (hk : ∀ k, k ≠ w.heap.size + 2 → w3.heap[k]? = w2.heap[k]?) : Dr w c (L ++ [x]) F B u v2 v3 w3 := by
  obtain ⟨k1, k2, k3, k4⟩ := h.kept (fun k hk => (h.r1.lt k hk).1) hg hos hk
  exact ⟨k1, k2, hp, by rw [List.length_append, List.length_singleton, Mh.cellsOf_append]; simpa [Mh.cellsOf] using own_kept2 hown k4 (by omega), own_kept2 (own_kept1 h.r2 hg h.d12) k4 (by omega), own_kept2 (own_kept1 h.r3 hg h.d13) k4 (by omega), fun k q1 q2 => by rcases hat k q1 with e | e; exact h.d12 k e q2; have := (h.r2.lt k q2).2; omega, fun k q1 q2 => by rcases hat k q1 with e | e; exact h.d13 k e q2; have := (h.r3.lt k q2).2; omega, h.d23, k3⟩
theorem Dr.put2 (h : Dr w c L F B v1 v2 v3 wr) {x : Mh.Ms} {u : Value} (hg : wr.grownBy w2 v2.ownBlock) (hown : w2.ownsRow (w.heap.size + 3) missB 15 u (F.length + 1) (Mh.cellsOf Mh.mc F ++ Mh.mc x)) (hat : ∀ k, u.ownBlock = some k → v2.ownBlock = some k ∨ k = wr.heap.size)
    (hp : w3.heap[w.heap.size + 2]? = some (.cells #[v1, u, v3] 51 (0, 0))) (hos : w3.os = w2.os ∧ w3.tape = w2.tape ∧ w3.output = w2.output ∧ w3.heap.size = w2.heap.size) (hk : ∀ k, k ≠ w.heap.size + 2 → w3.heap[k]? = w2.heap[k]?) : Dr w c L (F ++ [x]) B v1 u v3 w3 := by
  obtain ⟨k1, k2, k3, k4⟩ := h.kept (fun k hk => (h.r2.lt k hk).1) hg hos hk
  exact ⟨k1, k2, hp, own_kept2 (own_kept1 h.r1 hg (fun k q1 q2 => h.d12 k q2 q1)) k4 (by omega), by rw [List.length_append, List.length_singleton, Mh.cellsOf_append]; simpa [Mh.cellsOf] using own_kept2 hown k4 (by omega), own_kept2 (own_kept1 h.r3 hg h.d23) k4 (by omega), fun k q1 q2 => by rcases hat k q2 with e | e; exact h.d12 k q1 e; have := (h.r1.lt k q1).2; omega, h.d13, fun k q1 q2 => by rcases hat k q1 with e | e; exact h.d23 k e q2; have := (h.r3.lt k q2).2; omega, k3⟩
theorem Dr.put3 (h : Dr w c L F B v1 v2 v3 wr) {x : Wb.En} {u : Value} (hg : wr.grownBy w2 v3.ownBlock) (hown : w2.ownsRow (w.heap.size + 3) entB 10 u (B.length + 1) (Mh.cellsOf Wb.mc B ++ Wb.mc x)) (hat : ∀ k, u.ownBlock = some k → v3.ownBlock = some k ∨ k = wr.heap.size)
    (hp : w3.heap[w.heap.size + 2]? = some (.cells #[v1, v2, u] 51 (0, 0))) (hos : w3.os = w2.os ∧ w3.tape = w2.tape ∧ w3.output = w2.output ∧ w3.heap.size = w2.heap.size) (hk : ∀ k, k ≠ w.heap.size + 2 → w3.heap[k]? = w2.heap[k]?) : Dr w c L F (B ++ [x]) v1 v2 u w3 := by
  obtain ⟨k1, k2, k3, k4⟩ := h.kept (fun k hk => (h.r3.lt k hk).1) hg hos hk
  exact ⟨k1, k2, hp, own_kept2 (own_kept1 h.r1 hg (fun k q1 q2 => h.d13 k q2 q1)) k4 (by omega), own_kept2 (own_kept1 h.r2 hg (fun k q1 q2 => h.d23 k q2 q1)) k4 (by omega), by rw [List.length_append, List.length_singleton, Mh.cellsOf_append]; simpa [Mh.cellsOf] using own_kept2 hown k4 (by omega), h.d12, fun k q1 q2 => by rcases hat k q2 with e | e; exact h.d13 k q1 e; have := (h.r1.lt k q1).2; omega, fun k q1 q2 => by rcases hat k q2 with e | e; exact h.d23 k q1 e; have := (h.r2.lt k q1).2; omega, k3⟩

/-- What lies ahead of a loop, but for the picture's own box, stays. -/
def Fr (w w3 wr : World) : Prop := (∀ k, k < w3.heap.size → k ≠ w.heap.size + 2 → wr.heap[k]? = w3.heap[k]?) ∧ w3.heap.size ≤ wr.heap.size
theorem Fr.refl (w w3 : World) : Fr w w3 w3 := ⟨fun _ _ _ => rfl, Nat.le_refl _⟩
theorem Fr.step {w4 : World} (h : Fr w w4 wr) (hb : Below wr.heap.size wr w2) : Fr w w4 w2 := ⟨fun k h1 h2 => (hb.block k (Nat.lt_of_lt_of_le h1 h.2)).trans (h.1 k h1 h2), Nat.le_trans h.2 hb.size⟩
theorem Fr.put {w4 : World} {row : Option Nat} (h : Fr w w4 wr) (hrow : ∀ k, row = some k → w4.heap.size ≤ k) (hg : wr.grownBy w2 row) (hsz : w3.heap.size = w2.heap.size) (hk : ∀ k, k ≠ w.heap.size + 2 → w3.heap[k]? = w2.heap[k]?) : Fr w w4 w3 :=
  ⟨fun k h1 h2 => (hk k h2).trans ((hg.block k (Nat.lt_of_lt_of_le h1 h.2) (fun e => by have := hrow k e.symm; omega)).trans (h.1 k h1 h2)), by have := hg.size; have := h.2; omega⟩
theorem own_isSlice {base : Nat} {e : TypeId} {sz n : Nat} {v : Value} {xs : List Value} (h : wr.ownsRow base e sz v n xs) (k : IntKind) (i : Int) : v ≠ .int k i := by
  rcases h.2 with ⟨rfl, _⟩ | ⟨_, _, _, rfl, _⟩ <;> simp
/-- The misses that a call told lie apart from the picture, and stay. -/
theorem MsIn.fr {w4 : World} {p : Option Addr} {l : List Mh.Ms} (h : Mh.MsIn w4 p l) (hd : Dr w c L F B v1 v2 v3 w4) (hf : Fr w w4 wr) : Mh.MsIn wr p l := fun i x hx => by
  obtain ⟨g, e, hg, hr⟩ := h i x hx
  have hl := (List.getElem?_eq_some_iff.1 hx).1
  have hne : g ≠ w.heap.size + 2 := fun q => by
    obtain ⟨y, hy⟩ : ∃ y, l[0]? = some y := ⟨_, List.getElem?_eq_getElem (by omega)⟩
    obtain ⟨g', e', _, hr'⟩ := h 0 y hy
    obtain rfl : g = g' := by rw [e] at e'; simpa using e'
    have q1 := hr' 0 (.int .i64 y.ln) rfl
    rw [q, c_cell hd.pp] at q1
    exact own_isSlice hd.r1 _ _ (Option.some.inj q1)
  exact ⟨g, e, Nat.lt_of_lt_of_le hg hf.2, fun j v hv => (World.cell?_of_block (a := ⟨g, i * 15 + j, none⟩) (hf.1 g hg hne)).trans (hr j v hv)⟩
theorem EnIn.fr {w4 : World} {p : Option Addr} {l : List Wb.En} (h : Wb.EnIn w4 p l) (hd : Dr w c L F B v1 v2 v3 w4) (hf : Fr w w4 wr) : Wb.EnIn wr p l := fun i x hx => by
  obtain ⟨g, e, hg, hr⟩ := h i x hx
  have hl := (List.getElem?_eq_some_iff.1 hx).1
  have hne : g ≠ w.heap.size + 2 := fun q => by
    obtain ⟨y, hy⟩ : ∃ y, l[0]? = some y := ⟨_, List.getElem?_eq_getElem (by omega)⟩
    obtain ⟨g', e', _, hr'⟩ := h 0 y hy
    obtain rfl : g = g' := by rw [e] at e'; simpa using e'
    have q1 := hr' 0 (.int .i64 y.ln) rfl
    rw [q, c_cell hd.pp] at q1
    exact own_isSlice hd.r1 _ _ (Option.some.inj q1)
  exact ⟨g, e, Nat.lt_of_lt_of_le hg hf.2, fun j v hv => (World.cell?_of_block (a := ⟨g, i * 10 + j, none⟩) (hf.1 g hg hne)).trans (hr j v hv)⟩

end Go.Proofs.YtlfhkjjjocmpbaaGreatDoor.Cc
