/-
  What CacheLocks asks of a cache, and rows where a picture says.
-/
import Derived.Test.YtlfhkjjjocmpbaaGreatDoorCcYd
import Derived.Test.YtlfhkjjjocmpbaaGreatDoorCcS
namespace Go.Proofs.YtlfhkjjjocmpbaaGreatDoor.Cc
open Go Go.RowKit

variable {c : Cfg} {s : St} {core : Int}
theorem own_rows {α : Type} {f : α → List Value} {sz : Nat} (hf : ∀ x, (f x).length = sz) {w : World} {B e : Nat} {v : Value} {l : List α} (h : w.ownsRow B e sz v l.length (Mh.cellsOf f l)) : ∃ p cap, v = .slice p l.length cap ∧ RowsIn f sz w p l := by
  rcases h.2 with ⟨rfl, h0⟩ | ⟨g, cap, cur, rfl, hb, hg, rest⟩
  · exact ⟨none, 0, by rw [h0], fun i x hx => by have := (List.getElem?_eq_some_iff.1 hx).1; omega⟩
  · refine ⟨_, cap, rfl, fun i x hx => ⟨g, rfl, lt_blk hg, fun j u hu => ?_⟩⟩
    obtain ⟨hi, rfl⟩ := List.getElem?_eq_some_iff.1 hx
    have hj : j < sz := by
      have := (List.getElem?_eq_some_iff.1 hu).1
      rwa [hf] at this
    have := h.cells (g := g) rfl (i * sz + j) u (by rw [Mh.cellsOf_at hf l i j hi hj]; exact hu)
    rwa [Addr.add_lit, Nat.zero_add] at this
/-- A picture's rows, where its value says. -/
theorem pic_rows {w w' : World} {L : List Ar.Wy} {F : List Mh.Ms} {B : List Wb.En} {e : Ending} (h : RetPic w L F B e w') : ∃ p1 c1 p2 c2 p3 c3, e = .returned (.agg #[.slice p1 L.length c1, .slice p2 F.length c2, .slice p3 B.length c3]) ∧ RowsIn Ar.yc 11 w' p1 L ∧ RowsIn Mh.mc 15 w' p2 F ∧ RowsIn Wb.mc 10 w' p3 B ∧ Below w.heap.size w w' := by
  obtain ⟨v1, v2, v3, rfl, r1, r2, r3, hb, _⟩ := h
  obtain ⟨p1, c1, rfl, h1⟩ := own_rows (f := Ar.yc) (fun _ => rfl) r1
  obtain ⟨p2, c2, rfl, h2⟩ := own_rows (f := Mh.mc) (fun _ => rfl) r2
  obtain ⟨p3, c3, rfl, h3⟩ := own_rows (f := Wb.mc) (fun _ => rfl) r3
  exact ⟨p1, c1, p2, c2, p3, c3, rfl, h1, h2, h3, hb⟩

/-- A row as a box, or none. -/
theorem own_box {base e sz n : Nat} {v : Value} {xs : List Value} {w : World} (h : w.ownsRow base e sz v n xs) : ∃ ns : Bx, (∀ p ∈ ns, w.heap[p.1]? = some p.2 ∧ base ≤ p.1) ∧ (∀ k, k ∈ ns.map Prod.fst ↔ v.ownBlock = some k) ∧ (ns.map Prod.fst).Nodup ∧ ∀ W, Holds ns W → W.ownsRow base e sz v n xs := by
  rcases h.2 with ⟨e0, h0⟩ | ⟨g, cap, cur, e0, hb, hg, rest⟩
  · exact ⟨[], by simp, fun k => by rw [e0]; simp [Value.ownBlock], List.Pairwise.nil, fun W _ => ⟨h.1, .inl ⟨e0, h0⟩⟩⟩
  · refine ⟨[(g, .cells cur e (0, 0))], fun p hp => ?_, fun k => by rw [e0]; simp [Value.ownBlock, eq_comm], by simp, fun W hW => ⟨h.1, .inr ⟨g, cap, cur, e0, hb, hW _ (List.mem_cons_self ..), rest⟩⟩⟩
    obtain rfl := List.mem_singleton.1 hp
    exact ⟨hg, hb⟩

/-- So many of the first ways are locked. -/
def cntL (A : List Ar.Wy) (k : Nat) : Nat := ((A.take k).filter fun x => x.lk).length
theorem cnt_zero (A : List Ar.Wy) : cntL A 0 = 0 := rfl
theorem cnt_next {A : List Ar.Wy} {k : Nat} {x : Ar.Wy} (hx : A[k]? = some x) : cntL A (k + 1) = cntL A k + (if x.lk = true then 1 else 0) := by
  unfold cntL
  rw [List.take_add_one, hx]
  simp only [Option.toList_some, List.filter_append, List.length_append]
  rcases Bool.eq_false_or_eq_true x.lk with e | e <;> simp [e]
theorem Inv.cnt (h : Inv c s) : cntL s.A s.A.length = s.F.length := by
  have := h.pm.length_eq
  unfold lkd at this
  simpa [cntL] using this
theorem Inv.lk_there (h : Inv c s) {m : Mh.Ms} (hm : m ∈ s.F) : there c s m.ln = true ∧ (look c s m.ln).lk = true := h.locked.1 ⟨m, hm, rfl⟩
theorem Inv.apartB (h : Inv c s) {m : Mh.Ms} (hm : m ∈ s.F) {b : Wb.En} (hb : b ∈ s.B) : (b.ln == m.ln) = false := by simpa using fun e => h.nFB m hm b hb e.symm

end Go.Proofs.YtlfhkjjjocmpbaaGreatDoor.Cc
