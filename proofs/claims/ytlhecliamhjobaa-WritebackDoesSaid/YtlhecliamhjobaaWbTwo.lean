/-
  Both buffers of a law side by side, and boxes that neither touches.
-/
import Derived.Test.YtlhecliamhjobaaWbZ
import Derived.Test.YtlhecliamhjobaaWbP
namespace Go.Proofs.Ytlhecliamhjobaa
open Go Go.RowKit

/-- A buffer's blocks as boxes. -/
theorem Bg.boxes {T e : TypeId} {w : World} {B b : Nat} {room : Int} {l : List En} {v : Value} (h : Bg T e 10 mc w B b room l v) :
    ∃ dx : List (Nat × Obj), (∀ q ∈ dx, w.heap[q.1]? = some q.2 ∧ B ≤ q.1 ∧ (q.1 = b ∨ v.ownBlock = some q.1)) ∧ (∀ n, n = b ∨ v.ownBlock = some n → ∃ q ∈ dx, q.1 = n) ∧ (dx.map Prod.fst).Nodup ∧ (∀ W : World, (∀ q ∈ dx, W.heap[q.1]? = some q.2) → Bg T e 10 mc W B b room l v) := by
  rcases h.row.2 with ⟨e0, h0⟩ | ⟨g, cap, cur, e0, hB, hgg, rest⟩
  · refine ⟨[(b, .cells #[.int .i64 room, v] T (0, 0))], fun q hq => ?_, fun n hn => ?_, by simp, fun W hW => ?_⟩
    · obtain rfl := List.mem_singleton.1 hq
      exact ⟨h.blk, h.big, .inl rfl⟩
    · rcases hn with rfl | hn
      · exact ⟨_, List.mem_cons_self .., rfl⟩
      · rw [e0] at hn; simp [Value.ownBlock] at hn
    · exact ⟨hW _ (List.mem_cons_self ..), ⟨h.row.1, .inl ⟨e0, h0⟩⟩, h.off, h.big⟩
  · have hbg : b ≠ g := fun e => h.off (by rw [e0, e]; rfl)
    refine ⟨[(b, .cells #[.int .i64 room, v] T (0, 0)), (g, .cells cur e (0, 0))], fun q hq => ?_, fun n hn => ?_, by simpa using hbg, fun W hW => ?_⟩
    · simp only [List.mem_cons, List.not_mem_nil, or_false] at hq
      rcases hq with rfl | rfl
      · exact ⟨h.blk, h.big, .inl rfl⟩
      · exact ⟨hgg, hB, .inr (by rw [e0]; rfl)⟩
    · rcases hn with rfl | hn
      · exact ⟨_, List.mem_cons_self .., rfl⟩
      · rw [e0] at hn
        simp only [Value.ownBlock, Option.some.injEq] at hn
        subst hn
        exact ⟨_, List.mem_cons_of_mem _ (List.mem_cons_self ..), rfl⟩
    · exact ⟨hW _ (List.mem_cons_self ..), ⟨h.row.1, .inr ⟨g, cap, cur, e0, hB, hW _ (List.mem_cons_of_mem _ (List.mem_cons_self ..)), rest⟩⟩, h.off, h.big⟩

structure Two (w : World) (b b2 : Nat) (room : Int) (L R : List En) (bx : List (Nat × Obj)) (wr : World) : Prop where
  fs : ∃ v v2, BgP wr w.heap.size b room L v ∧ BgD wr w.heap.size b2 room R v2 ∧ b ≠ b2 ∧ v.ownBlock ≠ some b2 ∧ v2.ownBlock ≠ some b ∧ (∀ n, v.ownBlock = some n → v2.ownBlock ≠ some n) ∧ (∀ p ∈ bx, v.ownBlock ≠ some p.1 ∧ v2.ownBlock ≠ some p.1)
  g1 : Good room L
  g2 : Good room R
  bl : Below w.heap.size w wr
  bxs : ∀ p ∈ bx, wr.heap[p.1]? = some p.2 ∧ p.1 ≠ b ∧ p.1 ≠ b2 ∧ w.heap.size ≤ p.1
  nd : (bx.map Prod.fst).Nodup
variable {w wr wr' : World} {b b2 : Nat} {room : Int} {L R : List En} {bx : List (Nat × Obj)}
theorem Two.step (h : Two w b b2 room L R bx wr) (hb : Below wr.heap.size wr wr') : Two w b b2 room L R bx wr' := by
  obtain ⟨v, v2, h1, h2, h3⟩ := h.fs
  exact ⟨⟨v, v2, h1.below hb, h2.below hb, h3⟩, h.g1, h.g2, bstep h.bl hb, fun p hp => ⟨(hb.block p.1 (lt_of_block (h.bxs p hp).1)).trans (h.bxs p hp).1, (h.bxs p hp).2⟩, h.nd⟩
theorem nodup_apart {dx bx : List (Nat × Obj)} (h1 : (dx.map Prod.fst).Nodup) (h2 : (bx.map Prod.fst).Nodup) (h : ∀ p ∈ dx, ∀ q ∈ bx, p.1 ≠ q.1) : ((dx ++ bx).map Prod.fst).Nodup := by
  rw [List.map_append, List.nodup_append]
  refine ⟨h1, h2, fun a ha c hc => ?_⟩
  obtain ⟨p, hp, rfl⟩ := List.mem_map.1 ha
  obtain ⟨q, hq, rfl⟩ := List.mem_map.1 hc
  exact h p hp q hq
/-- The program's buffer alone, the document's blocks as boxes. -/
theorem Two.left (h : Two w b b2 room L R bx wr) : ∃ dx, Own w b room L (dx ++ bx) wr ∧ ∀ wr' m, Own w b room m (dx ++ bx) wr' → Two w b b2 room m R bx wr' := by
  obtain ⟨v, v2, h1, h2, h3, h4, h5, h6, h7⟩ := h.fs
  obtain ⟨dx, d1, d2, d3, d4⟩ := h2.boxes
  have hoff : ∀ q ∈ dx, v.ownBlock ≠ some q.1 := fun q hq => by
    rcases (d1 q hq).2.2 with e | e
    · rw [e]; exact h4
    · exact fun e2 => h6 _ e2 e
  have hnb : ∀ q ∈ dx, q.1 ≠ b := fun q hq => by
    rcases (d1 q hq).2.2 with e | e
    · rw [e]; exact fun e2 => h3 e2.symm
    · exact fun e2 => h5 (by rw [e, e2])
  refine ⟨dx, ⟨⟨v, h1, fun p hp => ?_⟩, h.g1, h.bl, fun p hp => ?_, nodup_apart d3 h.nd fun p hp q hq => ?_⟩, fun wr' m ho => ?_⟩
  · rcases List.mem_append.1 hp with hp | hp
    · exact hoff p hp
    · exact (h7 p hp).1
  · rcases List.mem_append.1 hp with hp | hp
    · exact ⟨(d1 p hp).1, hnb p hp, (d1 p hp).2.1⟩
    · obtain ⟨q1, q2, q3, q4⟩ := h.bxs p hp
      exact ⟨q1, q2, q4⟩
  · rcases (d1 p hp).2.2 with e | e
    · rw [e]; exact fun e2 => (h.bxs q hq).2.2.1 e2.symm
    · exact fun e2 => (h7 q hq).2 (by rw [e, e2])
  · obtain ⟨v', g1, g2⟩ := ho.bg
    have hd : BgD wr' w.heap.size b2 room R v2 := d4 wr' fun q hq => (ho.bxs q (List.mem_append_left _ hq)).1
    obtain ⟨q2, m2, e2⟩ := d2 b2 (.inl rfl)
    refine ⟨⟨v', v2, g1, hd, h3, ?_, h5, fun n hn hn2 => ?_, fun p hp => ⟨g2 p (List.mem_append_right _ hp), (h7 p hp).2⟩⟩, ho.gd, h.g2, ho.bl, fun p hp => ?_, h.nd⟩
    · have := g2 q2 (List.mem_append_left _ m2)
      rwa [e2] at this
    · obtain ⟨q3, m3, e3⟩ := d2 n (.inr hn2)
      have := g2 q3 (List.mem_append_left _ m3)
      rw [e3] at this
      exact this hn
    · have := ho.bxs p (List.mem_append_right _ hp)
      exact ⟨this.1, this.2.1, (h.bxs p hp).2.2.1, this.2.2⟩
/-- The document's buffer alone, the program's blocks as boxes. -/
theorem Two.right (h : Two w b b2 room L R bx wr) : ∃ dx, OwnD w b2 room R (dx ++ bx) wr ∧ ∀ wr' m, OwnD w b2 room m (dx ++ bx) wr' → Two w b b2 room L m bx wr' := by
  obtain ⟨v, v2, h1, h2, h3, h4, h5, h6, h7⟩ := h.fs
  obtain ⟨dx, d1, d2, d3, d4⟩ := h1.boxes
  have hoff : ∀ q ∈ dx, v2.ownBlock ≠ some q.1 := fun q hq => by
    rcases (d1 q hq).2.2 with e | e
    · rw [e]; exact h5
    · exact h6 _ e
  have hnb : ∀ q ∈ dx, q.1 ≠ b2 := fun q hq => by
    rcases (d1 q hq).2.2 with e | e
    · rw [e]; exact h3
    · exact fun e2 => h4 (by rw [e, e2])
  refine ⟨dx, ⟨⟨v2, h2, fun p hp => ?_⟩, h.g2, h.bl, fun p hp => ?_, nodup_apart d3 h.nd fun p hp q hq => ?_⟩, fun wr' m ho => ?_⟩
  · rcases List.mem_append.1 hp with hp | hp
    · exact hoff p hp
    · exact (h7 p hp).2
  · rcases List.mem_append.1 hp with hp | hp
    · exact ⟨(d1 p hp).1, hnb p hp, (d1 p hp).2.1⟩
    · obtain ⟨q1, q2, q3, q4⟩ := h.bxs p hp
      exact ⟨q1, q3, q4⟩
  · rcases (d1 p hp).2.2 with e | e
    · rw [e]; exact fun e2 => (h.bxs q hq).2.1 e2.symm
    · exact fun e2 => (h7 q hq).1 (by rw [e, e2])
  · obtain ⟨v', g1, g2⟩ := ho.bg
    have hd : BgP wr' w.heap.size b room L v := d4 wr' fun q hq => (ho.bxs q (List.mem_append_left _ hq)).1
    obtain ⟨q2, m2, e2⟩ := d2 b (.inl rfl)
    refine ⟨⟨v, v', hd, g1, h3, h4, ?_, fun n hn => ?_, fun p hp => ⟨(h7 p hp).1, g2 p (List.mem_append_right _ hp)⟩⟩, h.g1, ho.gd, ho.bl, fun p hp => ?_, h.nd⟩
    · have := g2 q2 (List.mem_append_left _ m2)
      rwa [e2] at this
    · obtain ⟨q3, m3, e3⟩ := d2 n (.inr hn)
      have := g2 q3 (List.mem_append_left _ m3)
      rwa [e3] at this
    · have := ho.bxs p (List.mem_append_right _ hp)
      exact ⟨this.1, (h.bxs p hp).2.1, this.2.1, this.2.2⟩
theorem Two.addRow (h : Two w b b2 room L R bx wr) (old cs : Array Value) (T : TypeId) : Two w b b2 room L R ((wr.heap.size, .cells cs T (0, 0)) :: bx) ((wr.alloc (.cells old T)).setRow wr.heap.size cs) := by
  have hb := below_box wr (.cells old T) cs
  have hs := h.step hb
  obtain ⟨v, v2, h1, h2, h3, h4, h5, h6, h7⟩ := h.fs
  refine ⟨⟨v, v2, h1.below hb, h2.below hb, h3, h4, h5, h6, fun p hp => ?_⟩, h.g1, h.g2, hs.bl, fun p hp => ?_, ?_⟩
  · rcases List.mem_cons.1 hp with rfl | hp
    · exact ⟨h1.own_lt (Nat.le_refl _), h2.own_lt (Nat.le_refl _)⟩
    · exact h7 p hp
  · rcases List.mem_cons.1 hp with rfl | hp
    · exact ⟨setRow_heap _ _ _ _ _ _ (heap_alloc_new wr _), by have := h1.lt; simp only; omega, by have := h2.lt; simp only; omega, h.bl.size⟩
    · exact hs.bxs p hp
  · rw [List.map_cons, List.nodup_cons]
    refine ⟨fun hm => ?_, h.nd⟩
    obtain ⟨p, hp, e⟩ := List.mem_map.1 hm
    have := lt_of_block (h.bxs p hp).1
    omega
theorem Two.drop {p : Nat × Obj} (h : Two w b b2 room L R (p :: bx) wr) : Two w b b2 room L R bx wr := by
  obtain ⟨v, v2, h1, h2, h3, h4, h5, h6, h7⟩ := h.fs
  exact ⟨⟨v, v2, h1, h2, h3, h4, h5, h6, fun q hq => h7 q (List.mem_cons_of_mem _ hq)⟩, h.g1, h.g2, h.bl, fun q hq => h.bxs q (List.mem_cons_of_mem _ hq), (List.nodup_cons.1 (by rw [← List.map_cons]; exact h.nd)).2⟩
theorem Two.cells (h : Two w b b2 room L R bx wr) {n : Nat} {cs : Array Value} {T : TypeId} (hm : (n, .cells cs T (0, 0)) ∈ bx) : ∀ i, wr.cell? ⟨n, i, none⟩ = cs[i]? := blk_cell (h.bxs _ hm).1
/-- Both buffers are new. -/
theorem Own.two (h : Own w b room [] [] wr) : Calls Try.prog 7 #[.int .i64 room] wr fun e w' => ∃ b2, e = .returned (.tuple #[.pointer (some ⟨b2, 0, none⟩), .int .i64 0]) ∧ Two w b b2 room [] [] [] w' := by
  obtain ⟨v, h1, _⟩ := h.bg
  refine (refNew_yes room wr h.gd.r1 h.gd.r2).mono fun e w' ⟨he, hw⟩ => ?_
  subst hw
  have hv : v.ownBlock ≠ some wr.heap.size := h1.own_lt (Nat.le_refl _)
  have hlt := h1.lt
  exact ⟨_, he, ⟨v, _, h1.below (balloc wr _), Bg.new h.bl.size, by omega, hv, by simp [Value.ownBlock], fun n _ => by simp [Value.ownBlock], fun p hp => by cases hp⟩, h.gd, h.gd, bstep h.bl (balloc wr _), fun p hp => (by cases hp), by simp⟩
/-! The calls, side by side. -/
theorem Two.op1 (h : Two w b b2 room L R bx wr) (x : Wo) {d : Wd} {n : Int} {m : List En} (e : doP room L x = ((d, n), m)) :
    Calls Try.prog 8 #[.pointer (some ⟨b, 0, none⟩), .agg (ocells x)] wr fun e w' => e = .returned (.tuple #[.agg (dcells d), .int .i64 n]) ∧ Two w b b2 room m R bx w' := by
  obtain ⟨dx, ho, back⟩ := h.left
  exact (ho.op x e).mono fun e' w' ⟨h1, h2⟩ => ⟨h1, back _ _ h2⟩
theorem Two.put2 (h : Two w b b2 room L R bx wr) (line : Int) (d : Wd) {n : Int} {m : List En} (e : putP room R line d = (n, m)) :
    Calls Try.prog 9 #[.pointer (some ⟨b2, 0, none⟩), .int .i64 line, .agg (dcells d)] wr fun e w' => e = .returned (.int .i64 n) ∧ Two w b b2 room L m bx w' := by
  obtain ⟨dx, ho, back⟩ := h.right
  exact (ho.put line d e).mono fun e' w' ⟨h1, h2⟩ => ⟨h1, back _ _ h2⟩
theorem Two.share2 (h : Two w b b2 room L R bx wr) (line : Int) {d : Wd} {n : Int} {m : List En} (e : ansP id R line = ((d, n), m)) :
    Calls Try.prog 10 #[.pointer (some ⟨b2, 0, none⟩), .int .i64 line] wr fun e w' => e = .returned (.tuple #[.agg (dcells d), .int .i64 n]) ∧ Two w b b2 room L m bx w' := by
  obtain ⟨dx, ho, back⟩ := h.right
  exact (ho.share line e).mono fun e' w' ⟨h1, h2⟩ => ⟨h1, back _ _ h2⟩
theorem Two.give2 (h : Two w b b2 room L R bx wr) (line : Int) {d : Wd} {n : Int} {m : List En} (e : ansP gone R line = ((d, n), m)) :
    Calls Try.prog 11 #[.pointer (some ⟨b2, 0, none⟩), .int .i64 line] wr fun e w' => e = .returned (.tuple #[.agg (dcells d), .int .i64 n]) ∧ Two w b b2 room L m bx w' := by
  obtain ⟨dx, ho, back⟩ := h.right
  exact (ho.give line e).mono fun e' w' ⟨h1, h2⟩ => ⟨h1, back _ _ h2⟩
theorem Two.drop2 (h : Two w b b2 room L R bx wr) (line : Int) {n : Int} {m : List En} (e : dropP R line = (n, m)) :
    Calls Try.prog 12 #[.pointer (some ⟨b2, 0, none⟩), .int .i64 line] wr fun e w' => e = .returned (.int .i64 n) ∧ Two w b b2 room L m bx w' := by
  obtain ⟨dx, ho, back⟩ := h.right
  exact (ho.dropL line e).mono fun e' w' ⟨h1, h2⟩ => ⟨h1, back _ _ h2⟩
theorem Two.place2 (h : Two w b b2 room L R bx wr) (line : Int) :
    Calls Try.prog 16 #[.pointer (some ⟨b2, 0, none⟩), .int .i64 line] wr fun e w' => e = .returned (.int .i64 (oi (fnd R line))) ∧ wr = w' := by
  obtain ⟨dx, ho, _⟩ := h.right
  exact ho.place line
theorem Two.get1 (h : Two w b b2 room L R bx wr) (line : Int) {x : En} {q : Bool} (e : getP L line = (x, q)) :
    Calls Try.prog 15 #[.pointer (some ⟨b, 0, none⟩), .int .i64 line] wr fun e w' => e = .returned (.tuple #[.agg (mcells x), .bool q]) ∧ Below wr.heap.size wr w' := by
  obtain ⟨dx, ho, _⟩ := h.left
  exact ho.get line e
theorem Two.left1 (h : Two w b b2 room L R bx wr) :
    Calls Try.prog 14 #[.pointer (some ⟨b, 0, none⟩)] wr fun e w' => e = .returned (.int .i64 (room - L.length)) ∧ ∃ n, w' = wr.drewN n := by
  obtain ⟨dx, ho, _⟩ := h.left
  exact ho.left
theorem Two.list1 (h : Two w b b2 room L R bx wr) :
    Calls Try.prog 13 #[.pointer (some ⟨b, 0, none⟩)] wr fun e w' => ∃ p cap, e = .returned (.slice p L.length cap) ∧ EnIn w' p L ∧ Below wr.heap.size wr w' := by
  obtain ⟨dx, ho, _⟩ := h.left
  exact ho.list
/-- Where the document's entries lie. -/
theorem Two.ref (h : Two w b b2 room L R bx wr) : ∃ p cap, wr.heap[b2]? = some (.cells #[.int .i64 room, .slice p R.length cap] 44 (0, 0)) ∧ EnIn wr p R := by
  obtain ⟨v, v2, h1, h2, _⟩ := h.fs
  obtain ⟨p, cap, rfl, hin⟩ := h2.ins
  exact ⟨p, cap, h2.blk, hin⟩

end Go.Proofs.Ytlhecliamhjobaa
