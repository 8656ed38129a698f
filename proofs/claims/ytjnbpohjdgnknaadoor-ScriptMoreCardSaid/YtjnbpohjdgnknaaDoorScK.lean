/-
  What own of the statements does: a script of the document's.
-/
import Derived.Test.YtjnbpohjdgnknaaDoorScJ
namespace Go.Proofs.YtjnbpohjdgnknaaDoor
open Go Go.RowKit

theorem blk_cell {w : World} {b : Nat} {L : Array Value} {t : TypeId} (h : w.heap[b]? = some (.cells L t (0, 0))) (i : Nat) : w.cell? ⟨b, i, none⟩ = L[i]? := by simp [World.cell?, h]
theorem blk_free {w : World} {b : Nat} {L : Array Value} {t : TypeId} (h : w.heap[b]? = some (.cells L t (0, 0))) (i : Nat) : w.frozen? ⟨b, i, none⟩ = false := by simp [World.frozen?, h]
theorem blk_set {w : World} {b : Nat} {L : Array Value} {t : TypeId} (h : w.heap[b]? = some (.cells L t (0, 0))) (i : Nat) (u : Value) : (w.setCell ⟨b, i, none⟩ u).heap[b]? = some (.cells (L.setIfInBounds i u) t (0, 0)) := by
  have hlt := lt_of_block h
  have h' : w.heap[b] = .cells L t (0, 0) := by simpa [Array.getElem?_eq_getElem hlt] using h
  show (w.heap.modify b _)[b]? = _
  rw [Array.getElem?_eq_getElem (by simpa using hlt), Array.getElem_modify_self, h']
  rfl

theorem infoPick2 : (Tryd.prog.info? 57).map (fun i => (i.zero, i.size, i.bytes)) = some (some (.agg #[.int .i64 0, .int .i64 0, .int .i64 0]), 3, 24) := by kernel_rfl

/-- What holds at each round's head: the answer's block, the document's script so far, its picks. -/
structure OwnSt (w wr : World) (s : Scr) (p : Option Addr) (cp : Nat) (k : Nat) (v : Value) : Prop where
  res : wr.heap[w.heap.size + 1]? = some (.cells (sL c0 nilV nilV) 37 (0, 0))
  out : wr.heap[w.heap.size + 1 + 1]? = some (.cells (sL s.c (.slice p s.ps.length cp) v) 37 (0, 0))
  own : wr.ownsRow (w.heap.size + 3) 57 3 v (s.pk.take k).length (opCells (s.pk.take k))
  below : Below w.heap.size w wr
theorem OwnSt.step {w w1 w2 : World} {s : Scr} {p : Option Addr} {cp k : Nat} {v : Value} (h : OwnSt w w1 s p cp k v) (hb : Below w1.heap.size w1 w2) : OwnSt w w2 s p cp k v :=
  ⟨(hb.block _ (lt_of_block h.res)).trans h.res, (hb.block _ (lt_of_block h.out)).trans h.out, own_below h.own hb, h.below.trans (hb.mono (by have := lt_of_block h.out; omega))⟩
theorem OwnSt.more {w w1 w2 : World} {s : Scr} {p : Option Addr} {cp k : Nat} {v v' : Value} (hk : k < s.pk.length) (h : OwnSt w w1 s p cp k v) (hg : w1.grownBy w2 v.ownBlock)
    (ho : w2.ownsRow (w.heap.size + 3) 57 3 v' ((s.pk.take k).length + 1) (opCells (s.pk.take k) ++ [.int .i64 (s.pk.getD k ⟨0, 0, 0⟩).k, .int .i64 (s.pk.getD k ⟨0, 0, 0⟩).a, .int .i64 (s.pk.getD k ⟨0, 0, 0⟩).v])) :
    OwnSt w (w2.setCell ⟨w.heap.size + 1 + 1, 14, none⟩ v') s p cp (k + 1) v' := by
  have hsz := lt_of_block h.out
  have hbl := below_own h.own (by omega) hg
  have he : opCells (s.pk.take (k + 1)) = opCells (s.pk.take k) ++ [.int .i64 (s.pk.getD k ⟨0, 0, 0⟩).k, .int .i64 (s.pk.getD k ⟨0, 0, 0⟩).a, .int .i64 (s.pk.getD k ⟨0, 0, 0⟩).v] := by
    rw [take_more s.pk k hk, opCells_snoc]
  have hn : (s.pk.take (k + 1)).length = (s.pk.take k).length + 1 := by rw [take_more s.pk k hk]; simp
  refine ⟨?_, ?_, ?_, ?_⟩
  · exact (Below.heap_setCell _ _ _ _ (by simp)).trans ((hbl.block _ (by omega)).trans h.res)
  · exact blk_set ((hbl.block _ (by omega)).trans h.out) 14 v'
  · rw [he, hn]
    exact own_only ho ((Only.refl (w.heap.size + 1 + 1) w2).set 14 v') (by omega)
  · exact (h.below.trans (hbl.mono (by omega))).setCell (by simp only; omega) _

theorem new_at2 (w : World) (A B : Obj) : ((w.alloc A).alloc B).heap[w.heap.size + 1]? = some B := by
  have h1 := heap_alloc_new (w.alloc A) B
  have e1 : (w.alloc A).heap.size = w.heap.size + 1 := by simp
  rwa [e1] at h1
theorem own_start (w : World) (A B C : Obj) : (((w.alloc A).alloc B).alloc C).heap[w.heap.size + 1]? = some B ∧ (((w.alloc A).alloc B).alloc C).heap[w.heap.size + 1 + 1]? = some C ∧ Below w.heap.size w (((w.alloc A).alloc B).alloc C) := by
  have h1 := heap_alloc_new (w.alloc A) B
  have h2 := heap_alloc_new ((w.alloc A).alloc B) C
  have e1 : (w.alloc A).heap.size = w.heap.size + 1 := by simp
  have e2 : ((w.alloc A).alloc B).heap.size = w.heap.size + 1 + 1 := by simp
  rw [e1] at h1
  rw [e2] at h2
  exact ⟨(heap_old (by omega)).trans h1, h2, (((Below.refl _ _).alloc (Nat.le_refl _) _).alloc (by simp) _).alloc (by simp; omega) _⟩

set_option maxRecDepth 100000 in
set_option maxHeartbeats 4000000 in
theorem own_any (s : Scr) (p : Option Addr) (cp : Nat) (q : Option Addr) (cq : Nat) (w : World) (hs : ScAt w s p q) (hf : Fine s) :
    Calls Tryd.prog 10 #[sv s p cp q cq] w fun e w' => ∃ q' cq', e = .returned (sv s p cp q' cq') ∧ ScAt w' s p q' ∧ Below w.heap.size w w' := by
  obtain ⟨i0, hi0, hz0, hz1, hz2⟩ := info_parts infoPick2
  have HF := Lib.hid hf
  have HS := Lib.hid hs
  have hlp := hf.ps
  have hlk := hf.pk
  clear hs hf
  go_enter Tryd.func10, Tryd.ntmps10
  go_wp2
  go_loopw [14] (fun i wr => ∃ (m : Nat) (v : Value), m ≤ s.pk.length ∧ i = .int .i64 m ∧ Hid (OwnSt w wr s p cp m v)) (fun i _ => s.pk.length - (intOf i).toNat)
  case atStart =>
    have hst := own_start w
    exact ⟨0, nilV, Nat.zero_le _, rfl, Lib.hid ⟨(hst _ _ _).1, (hst _ _ _).2.1, World.ownsRow_nil _ _ _ _, (hst _ _ _).2.2⟩⟩
  case round =>
    obtain ⟨m, v, hm, rfl, OS⟩ := hrel
    have hso := lt_of_block OS.out.out
    by_cases hlm : m < s.pk.length
    · obtain ⟨g, off, rfl, hg, c0', c1, c2⟩ := (HS.out.pk.step OS.out.below) m hlm
      have O2 := Lib.hid ((OS.out.step ((Below.refl _ wr).alloc (Nat.le_refl _) (.cells #[.int .i64 (s.pk.getD m ⟨0, 0, 0⟩).k, .int .i64 (s.pk.getD m ⟨0, 0, 0⟩).a, .int .i64 (s.pk.getD m ⟨0, 0, 0⟩).v] 49))).step ((Below.refl _ _).alloc (Nat.le_refl _) (.cells #[.int .i64 (s.pk.getD m ⟨0, 0, 0⟩).k, .int .i64 (s.pk.getD m ⟨0, 0, 0⟩).a, .int .i64 (s.pk.getD m ⟨0, 0, 0⟩).v] 57)))
      have hc14 := blk_cell OS.out.out 14
      have HMO := Lib.hid (fun (w2 : World) (v' : Value) hg ho => OwnSt.more (v' := v') (w2 := w2) hlm O2.out hg ho)
      have hlen : (s.pk.take m).length = m := by rw [List.length_take]; omega
      have HL := Lib.hid hlen
      generalize s.pk.getD m ⟨0, 0, 0⟩ = x at *
      have HOW := Lib.hid O2.out.own
      rw [hlen] at HMO HOW
      generalize s.pk.take m = lm at HMO HOW HL hlen
      clear hlen
      simp at hc14
      go_wp2_with (at_builtin; refine wpList_append_own _ rfl _ _ 35 rfl (w.heap.size + 3) 57 i0 (.agg #[.int .i64 0, .int .i64 0, .int .i64 0]) 3 24 Tryd.underlying35 hi0 hz0 hz1 hz2 rfl (by decide) _ _ _ rfl HOW.out ⟨wr.heap.size + 1, 0, none⟩ 1 1 [.int .i64 x.k, .int .i64 x.a, .int .i64 x.v] rfl rfl (World.news_of_block (cs := #[.int .i64 x.k, .int .i64 x.a, .int .i64 x.v]) (t := 57) (fr := (0, 0)) (new_at2 wr _ _)) (by simp [Value.oneCell']) (by unfold maxLen; have := HL.out; omega) (by have := HL.out; omega) (by simp; omega) ?_)
      intro v1 w1 hown1 hg1 _
      obtain ⟨va, vn, vc, rfl⟩ := own_form hown1
      have hz1' := lt_of_block O2.out.out
      have hb14 := (hg1.block (w.heap.size + 1 + 1) hz1' (fun e => by have := (own_lt O2.out.own _ e.symm).1; omega)).trans O2.out.out
      have hd14 := blk_cell hb14 14
      have hf14 := blk_free hb14 14
      have HR := Lib.hid (HMO.out _ _ hg1 hown1)
      simp at hd14
      clear hown1 hg1 hb14 hc14
      go_wp2
      go_roundw
      case rel => exact ⟨m + 1, _, by omega, by go_num, HR⟩
      case measure => simp [intOf]; omega
    · obtain ⟨va, vn, vc, rfl⟩ := own_form OS.out.own
      have e : s.pk.take m = s.pk := List.take_of_length_le (by omega)
      have HOW := Lib.hid OS.out.own
      rw [e] at HOW
      have hco := blk_cell OS.out.out
      have HRS := Lib.hid OS.out.res
      clear e
      go_wp2_with ((with_reducible refine wpList_store_row (o := ⟨none, _, _, _, _, _⟩) rfl 37 (.tmp 2) (.tmp 25) rfl (w.heap.size + 1) (sL s.c (.slice p s.ps.length cp) (.slice va vn vc)) ?sx ?sy 37 ?old ?sg ?si ?so ?s1 ?_); (case sx => rfl); (case sy => rfl); (case sg => exact HRS.out); (case si => kernel_rfl); (case so => rfl); (case s1 => kernel_rfl))
      have hbr : Below wr.heap.size wr wr := Below.refl _ _
      refine bodyPost_ret (v := .agg (sL s.c (.slice p s.ps.length cp) (.slice va vn vc))) (results_cell_row Tryd.results10 _ _ (w.heap.size + 1) 37 _ (0, 0) _ rfl (setRow_heap _ _ _ _ _ _ HRS.out) Tryd.underlying37 rfl (by kernel_rfl)) rfl ?_
      obtain ⟨q', cq', e, hq⟩ := (ops_of_row (own_row HOW.out (by omega) (sL s.c (.slice p s.ps.length cp) (.slice va vn vc)) (g := w.heap.size + 1))).in_
      have hb := below_setRow OS.out.below (B := w.heap.size) (g := w.heap.size + 1) (by omega) (sL s.c (.slice p s.ps.length cp) (.slice va vn vc))
      exact ⟨q', cq', by rw [e], ⟨HS.out.ps.step hb, hq⟩, hb⟩

end Go.Proofs.YtjnbpohjdgnknaaDoor
