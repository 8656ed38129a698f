/-
  The document's buffer of a law, beside boxes; the calls upon it, by what they answer.
-/
import Derived.Test.YtlhecliamhjobaaWbX
import Derived.Test.YtlhecliamhjobaaWbL
namespace Go.Proofs.Ytlhecliamhjobaa
open Go Go.RowKit

/-- The document's buffer of a law, and boxes that it keeps. -/
structure OwnD (w : World) (b : Nat) (room : Int) (l : List En) (bx : List (Nat × Obj)) (wr : World) : Prop where
  bg : ∃ v, BgD wr w.heap.size b room l v ∧ ∀ p ∈ bx, v.ownBlock ≠ some p.1
  gd : Good room l
  bl : Below w.heap.size w wr
  bxs : ∀ p ∈ bx, wr.heap[p.1]? = some p.2 ∧ p.1 ≠ b ∧ w.heap.size ≤ p.1
  nd : (bx.map Prod.fst).Nodup
variable {w wr wr' : World} {b : Nat} {room : Int} {l : List En} {bx : List (Nat × Obj)}
theorem OwnD.blt (h : OwnD w b room l bx wr) : b < wr.heap.size := by obtain ⟨v, hb, _⟩ := h.bg; exact hb.lt
theorem OwnD.bge (h : OwnD w b room l bx wr) : w.heap.size ≤ b := by obtain ⟨v, hb, _⟩ := h.bg; exact hb.big
theorem OwnD.step (h : OwnD w b room l bx wr) (hb : Below wr.heap.size wr wr') : OwnD w b room l bx wr' := by
  obtain ⟨v, h1, h2⟩ := h.bg
  exact ⟨⟨v, h1.below hb, h2⟩, h.gd, bstep h.bl hb, fun p hp => ⟨(hb.block p.1 (lt_of_block (h.bxs p hp).1)).trans (h.bxs p hp).1, (h.bxs p hp).2⟩, h.nd⟩
theorem OwnD.drewN (h : OwnD w b room l bx wr) (n : Nat) : OwnD w b room l bx (wr.drewN n) := h.step (below_drewN (Below.refl _ _) n)
theorem OwnD.drew (h : OwnD w b room l bx wr) : OwnD w b room l bx wr.drew := h.step (Below.refl _ _).drew
/-- Behind a change. -/
theorem OwnD.gave {m : List En} {v : Value} (h : OwnD w b room l bx wr) (hv : BgD wr w.heap.size b room l v ∧ ∀ p ∈ bx, v.ownBlock ≠ some p.1) (hp : PutGave 44 47 10 mc wr w.heap.size b room m v wr') (hg : Good room m) : OwnD w b room m bx wr' := by
  obtain ⟨v', h1, h2, h3⟩ := hp
  refine ⟨⟨v', h1, fun p hpx e => ?_⟩, hg, h.bl.trans (h2.below hv.1 h.bl.size), fun p hpx => ?_, h.nd⟩
  · rcases h3 p.1 e with e1 | e1
    · exact hv.2 p hpx e1
    · have := lt_of_block (h.bxs p hpx).1
      omega
  · obtain ⟨g1, g2, g3⟩ := h.bxs p hpx
    exact ⟨(h2.other p.1 (lt_of_block g1) g2 (hv.2 p hpx)).trans g1, g2, g3⟩
/-- A box more, and less. -/
theorem OwnD.add (h : OwnD w b room l bx wr) (o : Obj) : OwnD w b room l ((wr.heap.size, o) :: bx) (wr.alloc o) := by
  have hs := h.step (balloc wr o)
  obtain ⟨v, h1, h2⟩ := hs.bg
  obtain ⟨v0, h10, h20⟩ := h.bg
  refine ⟨⟨v0, h10.below (balloc wr o), fun p hp => ?_⟩, h.gd, hs.bl, fun p hp => ?_, ?_⟩
  · rcases List.mem_cons.1 hp with rfl | hp
    · exact h10.own_lt (Nat.le_refl _)
    · exact h20 p hp
  · rcases List.mem_cons.1 hp with rfl | hp
    · exact ⟨heap_alloc_new wr o, by have := h.blt; simp only; omega, h.bl.size⟩
    · exact hs.bxs p hp
  · rw [List.map_cons, List.nodup_cons]
    refine ⟨fun hm => ?_, h.nd⟩
    obtain ⟨p, hp, e⟩ := List.mem_map.1 hm
    have := lt_of_block (h.bxs p hp).1
    omega
theorem OwnD.addRow (h : OwnD w b room l bx wr) (old cs : Array Value) (T : TypeId) : OwnD w b room l ((wr.heap.size, .cells cs T (0, 0)) :: bx) ((wr.alloc (.cells old T)).setRow wr.heap.size cs) := by
  have hs := h.add (.cells old T)
  have hb : Below wr.heap.size wr ((wr.alloc (.cells old T)).setRow wr.heap.size cs) := below_setRow (balloc wr _) (Nat.le_refl _) _
  have h2 := h.step hb
  obtain ⟨v0, h10, h20⟩ := h.bg
  refine ⟨⟨v0, h10.below hb, fun p hp => ?_⟩, h.gd, h2.bl, fun p hp => ?_, hs.nd⟩
  · rcases List.mem_cons.1 hp with rfl | hp
    · exact h10.own_lt (Nat.le_refl _)
    · exact h20 p hp
  · rcases List.mem_cons.1 hp with rfl | hp
    · exact ⟨setRow_heap _ _ _ _ _ _ (heap_alloc_new wr _), by have := h.blt; simp only; omega, h.bl.size⟩
    · exact h2.bxs p hp
theorem OwnD.drop {p : Nat × Obj} (h : OwnD w b room l (p :: bx) wr) : OwnD w b room l bx wr := by
  obtain ⟨v, h1, h2⟩ := h.bg
  exact ⟨⟨v, h1, fun q hq => h2 q (List.mem_cons_of_mem _ hq)⟩, h.gd, h.bl, fun q hq => h.bxs q (List.mem_cons_of_mem _ hq), (List.nodup_cons.1 (by rw [← List.map_cons]; exact h.nd)).2⟩
theorem OwnD.box (h : OwnD w b room l bx wr) {n : Nat} {o : Obj} (hm : (n, o) ∈ bx) : wr.heap[n]? = some o := (h.bxs _ hm).1
theorem OwnD.cells (h : OwnD w b room l bx wr) {n : Nat} {cs : Array Value} {T : TypeId} (hm : (n, .cells cs T (0, 0)) ∈ bx) : ∀ i, wr.cell? ⟨n, i, none⟩ = cs[i]? := blk_cell (h.bxs _ hm).1
/-- The first box is another one. -/
theorem OwnD.turn {n : Nat} {o o' : Obj} (h : OwnD w b room l ((n, o) :: bx) wr) (hg : wr.grownBy wr' (some n)) (ho : wr'.heap[n]? = some o') : OwnD w b room l ((n, o') :: bx) wr' := by
  obtain ⟨v, h1, h2⟩ := h.bg
  obtain ⟨g1, g2, g3⟩ := h.bxs (n, o) (List.mem_cons_self ..)
  have hn : v.ownBlock ≠ some n := h2 (n, o) (List.mem_cons_self ..)
  have hnd := List.nodup_cons.1 (show ((n, o) :: bx).map Prod.fst |>.Nodup from h.nd)
  refine ⟨⟨v, h1.keep (hg.block b h1.lt (by simp only [ne_eq, Option.some.injEq]; exact fun e => g2 e.symm)) (fun q hq => hg.block q (h1.row.lt q hq).2 (by simp only [ne_eq, Option.some.injEq]; rintro rfl; exact hn hq)), fun p hp => ?_⟩, h.gd, h.bl.grown hg h.bl.size (fun q hq => by cases hq; exact g3), fun p hp => ?_, hnd.1 |> fun _ => h.nd⟩
  · rcases List.mem_cons.1 hp with rfl | hp
    · exact hn
    · exact h2 p (List.mem_cons_of_mem _ hp)
  · rcases List.mem_cons.1 hp with rfl | hp
    · exact ⟨ho, g2, g3⟩
    · obtain ⟨q1, q2, q3⟩ := h.bxs p (List.mem_cons_of_mem _ hp)
      refine ⟨(hg.block p.1 (lt_of_block q1) (by simp only [ne_eq, Option.some.injEq]; intro e; exact hnd.1 (List.mem_map.2 ⟨p, hp, e⟩))).trans q1, q2, q3⟩
theorem OwnD.swap {p q : Nat × Obj} (h : OwnD w b room l (p :: q :: bx) wr) : OwnD w b room l (q :: p :: bx) wr := by
  obtain ⟨v, h1, h2⟩ := h.bg
  have hp : ∀ x, x ∈ q :: p :: bx → x ∈ p :: q :: bx := fun x hx => by
    simp only [List.mem_cons] at hx ⊢
    rcases hx with h | h | h
    · exact .inr (.inl h)
    · exact .inl h
    · exact .inr (.inr h)
  exact ⟨⟨v, h1, fun x hx => h2 x (hp x hx)⟩, h.gd, h.bl, fun x hx => h.bxs x (hp x hx), by
    have := h.nd
    rw [List.map_cons, List.map_cons] at this ⊢
    exact (List.Perm.swap _ _ _).nodup_iff.1 this⟩
theorem OwnD.setRow {n : Nat} {cs cs' : Array Value} {T : TypeId} (h : OwnD w b room l ((n, .cells cs T (0, 0)) :: bx) wr) : OwnD w b room l ((n, .cells cs' T (0, 0)) :: bx) (wr.setRow n cs') := by
  have g1 := h.box (List.mem_cons_self ..)
  exact h.turn ⟨rfl, rfl, rfl, by simp, fun q hq hne => setRow_other wr n q cs' (fun e => hne (by rw [e]))⟩ (setRow_heap _ _ _ _ _ _ g1)

/-! The calls. -/
theorem OwnD.put (h : OwnD w b room l bx wr) (line : Int) (d : Wd) {n : Int} {m : List En} (e : putP room l line d = (n, m)) :
    Calls Try.prog 9 #[.pointer (some ⟨b, 0, none⟩), .int .i64 line, .agg (dcells d)] wr fun e w' => e = .returned (.int .i64 n) ∧ OwnD w b room m bx w' := by
  obtain ⟨v, h1, h2⟩ := h.bg
  have hgd := h.gd.put line d
  refine (refPut_any h1 h.gd h.bl.size line d).mono fun e' w' hg => ?_
  rw [e] at hg hgd
  exact ⟨hg.res, h.gave ⟨h1, h2⟩ hg.put hgd⟩
theorem OwnD.share (h : OwnD w b room l bx wr) (line : Int) {d : Wd} {n : Int} {m : List En} (e : ansP id l line = ((d, n), m)) :
    Calls Try.prog 10 #[.pointer (some ⟨b, 0, none⟩), .int .i64 line] wr fun e w' => e = .returned (.tuple #[.agg (dcells d), .int .i64 n]) ∧ OwnD w b room m bx w' := by
  obtain ⟨v, h1, h2⟩ := h.bg
  have hm : m = l := by
    have := ans_id (l := l) (line := line)
    rw [e] at this
    exact this
  refine (refShare_any h1 line h.gd.short).mono fun e' w' hg => ?_
  rw [e] at hg
  exact ⟨hg.1, hm ▸ h.step hg.2⟩
theorem OwnD.give (h : OwnD w b room l bx wr) (line : Int) {d : Wd} {n : Int} {m : List En} (e : ansP gone l line = ((d, n), m)) :
    Calls Try.prog 11 #[.pointer (some ⟨b, 0, none⟩), .int .i64 line] wr fun e w' => e = .returned (.tuple #[.agg (dcells d), .int .i64 n]) ∧ OwnD w b room m bx w' := by
  obtain ⟨v, h1, h2⟩ := h.bg
  have hgd := h.gd.ans gone (fun _ => rfl) line
  refine (refGive_any h1 line h.gd.short).mono fun e' w' hg => ?_
  unfold GaveX at hg
  rw [e] at hg hgd
  exact ⟨hg.1, h.gave ⟨h1, h2⟩ hg.2 hgd⟩
theorem OwnD.dropL (h : OwnD w b room l bx wr) (line : Int) {n : Int} {m : List En} (e : dropP l line = (n, m)) :
    Calls Try.prog 12 #[.pointer (some ⟨b, 0, none⟩), .int .i64 line] wr fun e w' => e = .returned (.int .i64 n) ∧ OwnD w b room m bx w' := by
  obtain ⟨v, h1, h2⟩ := h.bg
  have hgd := h.gd.drop line
  have := h.gd.short
  refine (refDrop_any h1 h.bl.size line (by omega)).mono fun e' w' hg => ?_
  rw [e] at hg hgd
  exact ⟨hg.res, h.gave ⟨h1, h2⟩ hg.put hgd⟩
theorem OwnD.place (h : OwnD w b room l bx wr) (line : Int) :
    Calls Try.prog 16 #[.pointer (some ⟨b, 0, none⟩), .int .i64 line] wr fun e w' => e = .returned (.int .i64 (oi (fnd l line))) ∧ wr = w' := by
  obtain ⟨v, h1, h2⟩ := h.bg
  have := h.gd.short
  exact refPlace_any h1 line (by omega)

end Go.Proofs.Ytlhecliamhjobaa
