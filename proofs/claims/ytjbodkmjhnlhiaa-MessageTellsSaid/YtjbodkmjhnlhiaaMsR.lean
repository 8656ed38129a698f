/-
  What read does, the program's.
-/
import Derived.Test.YtjbodkmjhnlhiaaMsQ
import Derived.Test.YtjbodkmjhnlhiaaMsD
namespace Go.Proofs.Ytjbodkmjhnlhiaa
open Go Go.RowKit

theorem results_cell_two {P : Program} {fn : Func} {p q : Tmp} {ty : TypeId} (h : fn.results = #[.cell p ty, .tmp q]) (tmps : Array Value) (w : World) (g : Nat) (t : TypeId) (cs : Array Value) (fr : Nat × Nat) (d : TypeDesc)
    (hp : tmps.getD p undef = .pointer (some ⟨g, 0, none⟩)) (hg : w.heap[g]? = some (.cells cs t fr))
    (hu : P.underlying ty = some d) (hd : (match d with | .struct _ | .array _ _ => true | _ => false) = true) (hi : (P.info? ty).map (·.size) = some cs.size) :
    (results fn tmps).run P w = .ok (.tuple #[.agg cs, tmps.getD q undef]) w := by
  have hp' : tmps[p]?.getD undef = .pointer (some ⟨g, 0, none⟩) := by simpa using hp
  simp [results, h, hp', asAddr, run_loadVar_row w g t ty cs fr d hg hu hd hi]
theorem blk_cell {w : World} {b : Nat} {L : Array Value} {t : TypeId} (h : w.heap[b]? = some (.cells L t (0, 0))) (i : Nat) : w.cell? ⟨b, i, none⟩ = L[i]? := by simp [World.cell?, h]
theorem blk_free {w : World} {b : Nat} {L : Array Value} {t : TypeId} (h : w.heap[b]? = some (.cells L t (0, 0))) (i : Nat) : w.frozen? ⟨b, i, none⟩ = false := by simp [World.frozen?, h]
theorem lt_of_block {w : World} {b : Nat} {o : Obj} (h : w.heap[b]? = some o) : b < w.heap.size := (Array.getElem?_eq_some_iff.1 h).1
theorem blk_set {w : World} {b : Nat} {L : Array Value} {t : TypeId} (h : w.heap[b]? = some (.cells L t (0, 0))) (i : Nat) (u : Value) : (w.setCell ⟨b, i, none⟩ u).heap[b]? = some (.cells (L.setIfInBounds i u) t (0, 0)) := by
  have hlt := lt_of_block h
  have h' : w.heap[b] = .cells L t (0, 0) := by simpa [Array.getElem?_eq_getElem hlt] using h
  show (w.heap.modify b _)[b]? = _
  rw [Array.getElem?_eq_getElem (by simpa using hlt), Array.getElem_modify_self, h']
  rfl
theorem heap_old {w : World} {o : Obj} {k : Nat} (h : k < w.heap.size) : (w.alloc o).heap[k]? = w.heap[k]? := Below.heap_alloc _ _ _ h
theorem new_at2 (w : World) (A B : Obj) : ((w.alloc A).alloc B).heap[w.heap.size + 1]? = some B := by
  have h1 := heap_alloc_new (w.alloc A) B
  have e1 : (w.alloc A).heap.size = w.heap.size + 1 := by simp
  rwa [e1] at h1

theorem tell_head (s : List UInt8) : tellN s 0 = headM s := by unfold tellN headM wdN; simp
theorem tell_set (s : List UInt8) (k : Nat) (hk : k < 8) : (mcells (tellN s k)).setIfInBounds (7 + k) (.int .i64 (rd4 s (8 + 4 * k))) = mcells (tellN s (k + 1)) := by
  rcases (show k = 0 ∨ k = 1 ∨ k = 2 ∨ k = 3 ∨ k = 4 ∨ k = 5 ∨ k = 6 ∨ k = 7 by omega) with rfl | rfl | rfl | rfl | rfl | rfl | rfl | rfl <;> simp [tellN, wdN]
/-- What is left of a string from a place on. -/
theorem from_at (T : ByteArray) (j : Nat) (h : j + 4 ≤ T.size) : 4 ≤ (T.extract j T.size).size ∧ rd4 (T.extract j T.size).data.toList 0 = rd4 T.data.toList j := by
  have e : (T.extract j T.size).data.toList = T.data.toList.drop j := by
    rw [ByteArray.data_extract, Array.toList_extract]
    simp [List.extract, List.take_of_length_le]
  refine ⟨by rw [ByteArray.size_extract]; omega, ?_⟩
  have g : ∀ i, at8 (T.data.toList.drop j) i = at8 T.data.toList (j + i) := fun i => by
    unfold at8
    simp [List.getD_eq_getElem?_getD, List.getElem?_drop]
  rw [e]
  unfold rd4
  rw [g, g, g, g]
  rfl

/-- Sizes' block, the answer's block, and the block of the message that is being read. -/
structure RdSt (c : Cfg) (w wr : World) (g : Nat) (M : Msg) : Prop where
  cfg : ∀ o, wr.cell? ⟨w.heap.size, o, none⟩ = (ccells c)[o]?
  res : wr.heap[w.heap.size + 1]? = some (.cells (mcells m0) 28 (0, 0))
  out : wr.heap[g]? = some (.cells (mcells M) 28 (0, 0))
  gt : w.heap.size + 1 < g
  below : Below w.heap.size w wr
theorem RdSt.lt {c : Cfg} {w wr : World} {g : Nat} {M : Msg} (h : RdSt c w wr g M) : g < wr.heap.size := lt_of_block h.out
theorem RdSt.step {c : Cfg} {w w1 w2 : World} {g : Nat} {M : Msg} (h : RdSt c w w1 g M) (hb : Below w1.heap.size w1 w2) : RdSt c w w2 g M where
  cfg := fun o => (hb.cell (p := ⟨w.heap.size, o, none⟩) (by have := h.lt; have := h.gt; simp only; omega)).trans (h.cfg o)
  res := (hb.block _ (lt_of_block h.res)).trans h.res
  out := (hb.block _ (lt_of_block h.out)).trans h.out
  gt := h.gt
  below := bstep h.below hb
theorem RdSt.set {c : Cfg} {w wr : World} {g : Nat} {M M' : Msg} (h : RdSt c w wr g M) (i : Nat) (u : Value) (e : (mcells M).setIfInBounds i u = mcells M') : RdSt c w (wr.setCell ⟨g, i, none⟩ u) g M' where
  cfg := fun o => by
    have e1 : (wr.setCell ⟨g, i, none⟩ u).heap[w.heap.size]? = wr.heap[w.heap.size]? := Below.heap_setCell _ _ _ _ (by have := h.gt; simp only; omega)
    have := h.cfg o
    unfold World.cell? at *
    rw [← this]
    simp only [e1]
  res := (Below.heap_setCell _ _ _ _ (by have := h.gt; simp only; omega)).trans h.res
  out := by rw [← e]; exact blk_set h.out i u
  gt := h.gt
  below := h.below.setCell (by have := h.gt; simp only; omega) _

end Go.Proofs.Ytjbodkmjhnlhiaa
