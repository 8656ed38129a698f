/-
  Close: copy of many cells within a row that is known whole; what is left is without the one that is gone.
-/
import Derived.Test.YtcfcgejeiihgnaaMhE
import Derived.StillTailTactics
namespace Go.Proofs.Ytcfcgejeiihgnaa
open Go Go.RowKit

theorem run_copy_rows {P : Program} (w : World) (dT sT ty elem : TypeId) (i : TypeInfo) (g o dLen dCap : Nat) (a : Addr) (sLen sCap m size : Nat) (cur : Array Value) (t : TypeId) (cs : List Value)
    (hu : P.underlying dT = some (.slice elem)) (hi : P.info? elem = some i) (hs : i.size = size) (hg : w.heap[g]? = some (.cells cur t (0, 0))) (hm : Nat.min sLen dLen = m) (hn : cs.length = m * size)
    (hsrc : ∀ j v, cs[j]? = some v → w.cell? (a.add j) = some v) (hfit : o + cs.length ≤ cur.size) (h1 : ∀ v ∈ cs, v.oneCell' = true) :
    (Builtin.copy_ #[dT, sT] ty #[.slice (some ⟨g, o, none⟩) dLen dCap, .slice (some a) sLen sCap]).run P w =
      .ok (goInt m) (w.setRow g (cur.toList.take o ++ cs ++ cur.toList.drop (o + cs.length)).toArray) := by
  subst hs
  have hl := run_firstCells_some (P := P) w i.size m a sLen sCap cs hn hsrc
  have hst := run_storeCells_at P g o t cs 0 cur w hg (by simpa using hfit) h1
  simp only [Nat.add_zero] at hst
  simp [Builtin.copy_, run_underlying hu, Builtin.lenOf, sizeOf, typeInfo, hi, hm, hl, hst]
theorem wpList_copy_rows {P : Program} {w : World} {ops : Array Oper} {rest : List Oper} {o : Oper} {a : Act} {Q : Exit → Act → World → Prop} (hgd : o.guard = none) (d s : Operand) (dT sT : TypeId)
    (ho : o.op = .call { callee := .builtin .copy, args := #[d, s], argTypes := #[dT, sT] }) (elem : TypeId) (i : TypeInfo) (size : Nat) (hu : P.underlying dT = some (.slice elem)) (hi : P.info? elem = some i) (hs : i.size = size)
    (g off dLen dCap : Nat) (ad : Addr) (sLen sCap m : Nat) (hd : a.eval d = .slice (some ⟨g, off, none⟩) dLen dCap) (hsv : a.eval s = .slice (some ad) sLen sCap)
    (cur : Array Value) (t : TypeId) (hg : w.heap[g]? = some (.cells cur t (0, 0))) (cs : List Value) (hm : Nat.min sLen dLen = m) (hn : cs.length = m * size)
    (hsrc : ∀ j v, cs[j]? = some v → w.cell? (ad.add j) = some v) (hfit : off + cs.length ≤ cur.size) (h1 : ∀ v ∈ cs, v.oneCell' = true)
    (h : wpList P ops Q rest (a.put o.dst (goInt m)) (w.setRow g (cur.toList.take off ++ cs ++ cur.toList.drop (off + cs.length)).toArray)) : wpList P ops Q (o :: rest) a w := by
  refine wpList_plain hgd fun K hK => ?_
  have hrun := run_copy_rows (P := P) w dT sT o.type elem i g off dLen dCap ad sLen sCap m size cur t cs hu hi hs hg hm hn hsrc hfit h1
  unfold Oper.wp
  simp [execOp, ho, resolve, invoke, builtin, hd, hsv, hrun, Result.andThen]
  exact hK _ _ (by simpa using h)

/-- The row behind the copy and the cut. -/
theorem close_own {e : TypeId} {w w1 : World} {B b g cap : Nat} {T : TypeId} {room : Int} {l : List Ms} (h : Bg T e 15 mc w B b room l (.slice (some ⟨g, 0, none⟩) l.length cap)) (hb : Below w.heap.size w w1) {i : Nat} (hi : i < l.length) {cur : Array Value} (hg : w.heap[g]? = some (.cells cur e (0, 0))) (q : Nat) :
    PutGave T e 15 mc w B b room (l.eraseIdx i) (.slice (some ⟨g, 0, none⟩) l.length cap) (((w1.drewN q).setRow g (cur.toList.take (i * 15) ++ (cellsOf mc l).drop ((i + 1) * 15) ++ cur.toList.drop (i * 15 + ((cellsOf mc l).drop ((i + 1) * 15)).length)).toArray).setCell ⟨b, 1, none⟩ (.slice (some ⟨g, 0, none⟩) (l.length - 1) cap)) := by
  have hgb : b ≠ g := fun e => h.off (by rw [e]; rfl)
  have hbl := h.lt
  have hgl := (h.row.lt g rfl).2
  obtain ⟨hlen, hh⟩ := h.row
  rcases hh with ⟨e0, h0⟩ | ⟨g', cap', cur', e0, hB, hgg, h1, h2, h3, h4⟩
  · cases e0
  · obtain ⟨rfl, rfl⟩ : g = g' ∧ cap = cap' := by simpa using e0
    obtain rfl : cur = cur' := by rw [hg] at hgg; simpa using hgg
    have hg1 : (w1.drewN q).heap[g]? = some (.cells cur e (0, 0)) := (hb.block g hgl).trans hg
    have hfit : l.length * 15 ≤ cap * 15 := Nat.mul_le_mul_right _ h1
    have hi15 : (i + 1) * 15 ≤ l.length * 15 := Nat.mul_le_mul_right _ hi
    have hc15 := cellsOf_len mc_len l
    have hnl : ((cellsOf mc l).drop ((i + 1) * 15)).length = l.length * 15 - (i + 1) * 15 := by rw [List.length_drop, hc15]
    have hrow := setRow_heap (w1.drewN q) g _ (cur.toList.take (i * 15) ++ (cellsOf mc l).drop ((i + 1) * 15) ++ cur.toList.drop (i * 15 + ((cellsOf mc l).drop ((i + 1) * 15)).length)).toArray _ _ hg1
    have hb1 : ((w1.drewN q).setRow g (cur.toList.take (i * 15) ++ (cellsOf mc l).drop ((i + 1) * 15) ++ cur.toList.drop (i * 15 + ((cellsOf mc l).drop ((i + 1) * 15)).length)).toArray).heap[b]? = some (.cells #[.int .i64 room, .slice (some ⟨g, 0, none⟩) l.length cap] T (0, 0)) := (setRow_other _ g b _ hgb).trans ((hb.block b hbl).trans h.blk)
    have hel : (l.eraseIdx i).length = l.length - 1 := List.length_eraseIdx_of_lt hi
    refine ⟨.slice (some ⟨g, 0, none⟩) (l.length - 1) cap, ⟨?_, ⟨by rw [cellsOf_len mc_len], .inr ⟨g, cap, _, by rw [hel], hB, (heap_setCell_other _ _ _ _ (by simp only; omega)).trans hrow, by rw [hel]; omega, h2, ?_, ?_⟩⟩, h.off, h.big⟩, ⟨hb.os, hb.tape, hb.output, by have := hb.size; simpa [World.setCell] using this, fun k hk k1 k2 => ?_⟩, fun k hk => .inl hk⟩
    · rw [heap_setCell_same _ b 1 _ _ _ hb1]
      rfl
    · simp only [List.size_toArray, List.length_append, List.length_take, Array.length_toList, List.length_drop, hnl]
      rw [Nat.add_mul] at hi15
      simp only [Nat.add_mul]
      omega
    · rw [List.toList_toArray, hel]
      have e1 : cur.toList.take (i * 15) = (cellsOf mc l).take (i * 15) := by rw [← h4, List.take_take, Nat.min_eq_left (by omega)]
      have e2 : (cellsOf mc l).take (i * 15) ++ (cellsOf mc l).drop ((i + 1) * 15) = cellsOf mc (l.eraseIdx i) := by
        rw [cellsOf_take mc_len l i (by omega), cellsOf_drop mc_len l (i + 1) (by omega), ← cellsOf_append, List.eraseIdx_eq_take_drop_succ]
      rw [e1, e2]
      have : (cellsOf mc (l.eraseIdx i)).length = (l.length - 1) * 15 := by rw [cellsOf_len mc_len, hel]
      rw [← this, List.take_left']
      rfl
    · exact (heap_setCell_other _ _ _ _ k1).trans ((setRow_other _ g k _ (fun e => k2 (by rw [e]; rfl))).trans (hb.block k hk))

end Go.Proofs.Ytcfcgejeiihgnaa
