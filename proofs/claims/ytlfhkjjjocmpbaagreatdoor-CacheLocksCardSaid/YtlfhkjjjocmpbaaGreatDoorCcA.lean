/-
  A cache in memory: boxes that stand apart; an array, a file and a buffer as such boxes; a law's own cache beside boxes of its own, and what a change of one part makes of it.
-/
import Derived.Test.YtlfhkjjjocmpbaaGreatDoorCcM
import Derived.Test.YtlfhkjjjocmpbaaGreatDoorLayAr
import Derived.Test.YtlfhkjjjocmpbaaGreatDoorLayMh
import Derived.Test.YtlfhkjjjocmpbaaGreatDoorLayWb
namespace Go.Proofs.YtlfhkjjjocmpbaaGreatDoor.Cc
open Go Go.RowKit

abbrev Bx := List (Nat × Obj)
/-- Boxes, each in a block of its own, all from a world's end on. -/
structure Sp (w0 : World) (bx : Bx) (w : World) : Prop where
  ok : ∀ p ∈ bx, w.heap[p.1]? = some p.2 ∧ w0.heap.size ≤ p.1
  nd : (bx.map Prod.fst).Nodup
  bl : Below w0.heap.size w0 w
theorem lt_blk {w : World} {b : Nat} {o : Obj} (h : w.heap[b]? = some o) : b < w.heap.size := (Array.getElem?_eq_some_iff.1 h).1
theorem b_alloc (w : World) (o : Obj) : Below w.heap.size w (w.alloc o) := (Below.refl _ _).alloc (Nat.le_refl _) _
theorem b_step {w w1 w2 : World} (h : Below w.heap.size w w1) (h2 : Below w1.heap.size w1 w2) : Below w.heap.size w w2 := h.trans (h2.mono h.size)
theorem b_setRow {B : Nat} {w w' : World} (h : Below B w w') {g : Nat} (hg : B ≤ g) (cs : Array Value) : Below B w (w'.setRow g cs) :=
  h.trans ⟨rfl, rfl, rfl, by simp, fun k hk => setRow_other w' g k cs (by omega)⟩
theorem c_cell {w : World} {b : Nat} {L : Array Value} {t : TypeId} (h : w.heap[b]? = some (.cells L t (0, 0))) (i : Nat) : w.cell? ⟨b, i, none⟩ = L[i]? := by simp [World.cell?, h]
variable {w0 w w' : World} {bx cx : Bx}
theorem Sp.step (h : Sp w0 bx w) (hb : Below w.heap.size w w') : Sp w0 bx w' :=
  ⟨fun p hp => ⟨(hb.block p.1 (lt_blk (h.ok p hp).1)).trans (h.ok p hp).1, (h.ok p hp).2⟩, h.nd, b_step h.bl hb⟩
theorem Sp.perm (h : Sp w0 bx w) (hp : bx.Perm cx) : Sp w0 cx w := ⟨fun p hm => h.ok p (hp.mem_iff.2 hm), (hp.map _).nodup_iff.1 h.nd, h.bl⟩
theorem Sp.add (h : Sp w0 bx w) (o : Obj) : Sp w0 ((w.heap.size, o) :: bx) (w.alloc o) := by
  have hs := h.step (b_alloc w o)
  refine ⟨fun p hp => ?_, ?_, hs.bl⟩
  · rcases List.mem_cons.1 hp with rfl | hp
    · exact ⟨heap_alloc_new w o, h.bl.size⟩
    · exact hs.ok p hp
  · rw [List.map_cons, List.nodup_cons]
    refine ⟨fun hm => ?_, h.nd⟩
    obtain ⟨p, hp, e⟩ := List.mem_map.1 hm
    have := lt_blk (h.ok p hp).1
    omega
/-- Some boxes have become others. -/
theorem Sp.swap {xs ys rest : Bx} (h : Sp w0 (xs ++ rest) w) (hos : w'.os = w.os ∧ w'.tape = w.tape ∧ w'.output = w.output ∧ w.heap.size ≤ w'.heap.size) (hk : ∀ k, k < w.heap.size → k ∉ xs.map Prod.fst → w'.heap[k]? = w.heap[k]?)
    (hy : ∀ p ∈ ys, w'.heap[p.1]? = some p.2) (hf : ∀ p ∈ ys, p.1 ∈ xs.map Prod.fst ∨ w.heap.size ≤ p.1) (nd : (ys.map Prod.fst).Nodup) : Sp w0 (ys ++ rest) w' := by
  have hnd := h.nd
  rw [List.map_append, List.nodup_append] at hnd
  obtain ⟨_, n2, n3⟩ := hnd
  have hxs : ∀ k ∈ xs.map Prod.fst, w0.heap.size ≤ k := fun k hk => by
    obtain ⟨p, hp, rfl⟩ := List.mem_map.1 hk
    exact (h.ok p (List.mem_append_left _ hp)).2
  refine ⟨fun p hp => ?_, ?_, ⟨hos.1.trans h.bl.os, hos.2.1.trans h.bl.tape, hos.2.2.1.trans h.bl.output, Nat.le_trans h.bl.size hos.2.2.2, fun k hk0 => ?_⟩⟩
  · rcases List.mem_append.1 hp with hp | hp
    · refine ⟨hy p hp, ?_⟩
      rcases hf p hp with e | e
      · exact hxs _ e
      · exact Nat.le_trans h.bl.size e
    · have := h.ok p (List.mem_append_right _ hp)
      exact ⟨(hk p.1 (lt_blk this.1) fun hm => n3 _ hm _ (List.mem_map.2 ⟨p, hp, rfl⟩) rfl).trans this.1, this.2⟩
  · rw [List.map_append, List.nodup_append]
    refine ⟨nd, n2, fun a ha b hb e => ?_⟩
    obtain ⟨p, hp, rfl⟩ := List.mem_map.1 ha
    rcases hf p hp with e1 | e1
    · exact n3 _ e1 _ hb e
    · obtain ⟨q, hq, rfl⟩ := List.mem_map.1 hb
      have := lt_blk (h.ok q (List.mem_append_right _ hq)).1
      omega
  · exact (hk k (Nat.lt_of_lt_of_le hk0 h.bl.size) fun hm => by have := hxs k hm; omega).trans (h.bl.block k hk0)
/-- The first box' cells are others. -/
theorem Sp.setRow {n : Nat} {cs cs' : Array Value} {T : TypeId} (h : Sp w0 ((n, .cells cs T (0, 0)) :: bx) w) : Sp w0 ((n, .cells cs' T (0, 0)) :: bx) (w.setRow n cs') := by
  have g1 := (h.ok _ (List.mem_cons_self ..)).1
  exact Sp.swap (xs := [(n, .cells cs T (0, 0))]) (ys := [(n, .cells cs' T (0, 0))]) h ⟨rfl, rfl, rfl, by simp⟩ (fun k _ hne => setRow_other w n k cs' (fun e => hne (by simp [e]))) (fun p hp => by obtain rfl := List.mem_singleton.1 hp; exact setRow_heap _ _ _ _ _ _ g1) (fun p hp => .inl (by obtain rfl := List.mem_singleton.1 hp; simp)) (by simp)
theorem Sp.drop {p : Nat × Obj} (h : Sp w0 (p :: bx) w) : Sp w0 bx w := ⟨fun q hq => h.ok q (List.mem_cons_of_mem _ hq), (List.nodup_cons.1 (by rw [← List.map_cons]; exact h.nd)).2, h.bl⟩

/-! Parts as boxes. -/
abbrev Holds (xs : Bx) (W : World) : Prop := ∀ p ∈ xs, W.heap[p.1]? = some p.2
theorem ar_keep {a g : Nat} {c : Cfg} {L : List Ar.Wy} (h : Ar.Ar w a g c L) (h1 : w'.heap[a]? = w.heap[a]?) (h2 : w'.heap[g]? = w.heap[g]?) : Ar.Ar w' a g c L :=
  ⟨fun o => (World.cell?_of_block (a := ⟨a, o, none⟩) h1).trans (h.hd o), by
    have := Array.getElem?_eq_getElem h.bl; rw [this] at h1; exact lt_blk h1, fun o => (World.cell?_of_block (a := ⟨g, o, none⟩) h2).trans (h.row o), fun o => (World.frozen?_of_block (a := ⟨g, o, none⟩) h2).trans (h.fz o), by
    have := Array.getElem?_eq_getElem h.gl; rw [this] at h2; exact lt_blk h2, h.ne, h.sz, h.fits⟩
theorem ar_boxes {a g : Nat} {c : Cfg} {L : List Ar.Wy} (h : Ar.Ar w a g c L) : ∃ xs : Bx, xs.map Prod.fst = [a, g] ∧ Holds xs w ∧ ∀ W, Holds xs W → Ar.Ar W a g c L := by
  have e1 := Array.getElem?_eq_getElem h.bl
  have e2 := Array.getElem?_eq_getElem h.gl
  refine ⟨[(a, w.heap[a]'h.bl), (g, w.heap[g]'h.gl)], rfl, fun p hp => ?_, fun W hW => ar_keep h ((hW _ (List.mem_cons_self ..)).trans e1.symm) ((hW _ (List.mem_cons_of_mem _ (List.mem_cons_self ..))).trans e2.symm)⟩
  simp only [List.mem_cons, List.not_mem_nil, or_false] at hp
  rcases hp with rfl | rfl
  · exact e1
  · exact e2
theorem mh_boxes {T e : TypeId} {B b : Nat} {room : Int} {l : List Mh.Ms} {v : Value} (h : Mh.Bg T e 15 Mh.mc w B b room l v) :
    ∃ xs : Bx, (∀ n, n ∈ xs.map Prod.fst ↔ n = b ∨ v.ownBlock = some n) ∧ (xs.map Prod.fst).Nodup ∧ Holds xs w ∧ ∀ W, Holds xs W → Mh.Bg T e 15 Mh.mc W B b room l v := by
  rcases h.row.2 with ⟨e0, h0⟩ | ⟨g, cap, cur, e0, hB, hgg, rest⟩
  · refine ⟨[(b, .cells #[.int .i64 room, v] T (0, 0))], fun n => ?_, by simp, fun q hq => ?_, fun W hW => ?_⟩
    · rw [e0]; simp [Value.ownBlock]
    · obtain rfl := List.mem_singleton.1 hq
      exact h.blk
    · exact ⟨hW _ (List.mem_cons_self ..), ⟨h.row.1, .inl ⟨e0, h0⟩⟩, h.off, h.big⟩
  · have hbg : b ≠ g := fun e => h.off (by rw [e0, e]; rfl)
    refine ⟨[(b, .cells #[.int .i64 room, v] T (0, 0)), (g, .cells cur e (0, 0))], fun n => ?_, by simpa using hbg, fun q hq => ?_, fun W hW => ?_⟩
    · rw [e0]; simp [Value.ownBlock, eq_comm]
    · simp only [List.mem_cons, List.not_mem_nil, or_false] at hq
      rcases hq with rfl | rfl
      · exact h.blk
      · exact hgg
    · exact ⟨hW _ (List.mem_cons_self ..), ⟨h.row.1, .inr ⟨g, cap, cur, e0, hB, hW _ (List.mem_cons_of_mem _ (List.mem_cons_self ..)), rest⟩⟩, h.off, h.big⟩
theorem wb_boxes {T e : TypeId} {B b : Nat} {room : Int} {l : List Wb.En} {v : Value} (h : Wb.Bg T e 10 Wb.mc w B b room l v) :
    ∃ xs : Bx, (∀ n, n ∈ xs.map Prod.fst ↔ n = b ∨ v.ownBlock = some n) ∧ (xs.map Prod.fst).Nodup ∧ Holds xs w ∧ ∀ W, Holds xs W → Wb.Bg T e 10 Wb.mc W B b room l v := by
  rcases h.row.2 with ⟨e0, h0⟩ | ⟨g, cap, cur, e0, hB, hgg, rest⟩
  · refine ⟨[(b, .cells #[.int .i64 room, v] T (0, 0))], fun n => ?_, by simp, fun q hq => ?_, fun W hW => ?_⟩
    · rw [e0]; simp [Value.ownBlock]
    · obtain rfl := List.mem_singleton.1 hq
      exact h.blk
    · exact ⟨hW _ (List.mem_cons_self ..), ⟨h.row.1, .inl ⟨e0, h0⟩⟩, h.off, h.big⟩
  · have hbg : b ≠ g := fun e => h.off (by rw [e0, e]; rfl)
    refine ⟨[(b, .cells #[.int .i64 room, v] T (0, 0)), (g, .cells cur e (0, 0))], fun n => ?_, by simpa using hbg, fun q hq => ?_, fun W hW => ?_⟩
    · rw [e0]; simp [Value.ownBlock, eq_comm]
    · simp only [List.mem_cons, List.not_mem_nil, or_false] at hq
      rcases hq with rfl | rfl
      · exact h.blk
      · exact hgg
    · exact ⟨hW _ (List.mem_cons_self ..), ⟨h.row.1, .inr ⟨g, cap, cur, e0, hB, hW _ (List.mem_cons_of_mem _ (List.mem_cons_self ..)), rest⟩⟩, h.off, h.big⟩

/-- Which types the parts have: the program's, or the document's. -/
structure Tys where
  t : TypeId
  ft : TypeId
  fe : TypeId
  bt : TypeId
  be : TypeId
abbrev tyP : Tys := ⟨110, 151, 117, 153, 97⟩
/-- Where a cache's block, its array, its file and its buffer are. -/
structure Kb where
  k : Nat
  a : Nat
  f : Nat
  b : Nat
abbrev kcells (c : Cfg) (core : Int) (K : Kb) : Array Value := #[.int .i64 c.co, .int .i64 c.ho, .int .i64 c.se, .int .i64 c.wa, .int .i64 c.wo, .int .i64 c.li, .int .i64 c.po, .int .i64 c.ms, .int .i64 c.bu, .int .i64 c.wb, .int .i64 c.r0, .int .i64 c.r1, .int .i64 c.r2, .int .i64 core, .pointer (some ⟨K.a, 0, none⟩), .pointer (some ⟨K.f, 0, none⟩), .pointer (some ⟨K.b, 0, none⟩)]
def ArT (a : Nat) (c : Cfg) (L : List Ar.Wy) (xs : Bx) : Prop := (∃ g, xs.map Prod.fst = [a, g] ∧ ∀ W, Holds xs W → Ar.Ar W a g c L) ∧ Ar.Good c L
def FlT (T e : TypeId) (B f : Nat) (room n : Int) (l : List Mh.Ms) (xs : Bx) : Prop := (∃ v, (∀ k, k ∈ xs.map Prod.fst ↔ k = f ∨ v.ownBlock = some k) ∧ ∀ W, Holds xs W → Mh.Bg T e 15 Mh.mc W B f room l v) ∧ Mh.Good room n l ∧ 0 ≤ n
def BfT (T e : TypeId) (B b : Nat) (room : Int) (l : List Wb.En) (xs : Bx) : Prop := (∃ v, (∀ k, k ∈ xs.map Prod.fst ↔ k = b ∨ v.ownBlock = some k) ∧ ∀ W, Holds xs W → Wb.Bg T e 10 Wb.mc W B b room l v) ∧ Wb.Good room l

/-- A law's own cache, behind so many calls upon its file, and boxes that it keeps. -/
structure Own (ty : Tys) (w0 : World) (K : Kb) (c : Cfg) (core n : Int) (s : St) (bx : Bx) (w : World) : Prop where
  ex : ∃ xa xf xb, ArT K.a c s.A xa ∧ FlT ty.ft ty.fe w0.heap.size K.f c.ms n s.F xf ∧ BfT ty.bt ty.be w0.heap.size K.b c.wb s.B xb ∧ Sp w0 (xa ++ (xf ++ (xb ++ ((K.k, .cells (kcells c core K) ty.t (0, 0)) :: bx)))) w
  tb : Tb w0
variable {ty : Tys} {K : Kb} {c : Cfg} {core n : Int} {s : St}
theorem Own.step (h : Own ty w0 K c core n s bx w) (hb : Below w.heap.size w w') : Own ty w0 K c core n s bx w' := by
  obtain ⟨xa, xf, xb, h1, h2, h3, h4⟩ := h.ex
  exact ⟨⟨xa, xf, xb, h1, h2, h3, h4.step hb⟩, h.tb⟩
theorem Own.below (h : Own ty w0 K c core n s bx w) : Below w0.heap.size w0 w := by obtain ⟨xa, xf, xb, h1, h2, h3, h4⟩ := h.ex; exact h4.bl
theorem Own.tbs (h : Own ty w0 K c core n s bx w) : Tb w := h.tb.keeps h.below
/-- The boxes alone change. -/
theorem Own.boxed (h : Own ty w0 K c core n s bx w) (f : ∀ ys, Sp w0 (ys ++ bx) w → Sp w0 (ys ++ cx) w') : Own ty w0 K c core n s cx w' := by
  obtain ⟨xa, xf, xb, h1, h2, h3, h4⟩ := h.ex
  refine ⟨⟨xa, xf, xb, h1, h2, h3, ?_⟩, h.tb⟩
  have := f (xa ++ (xf ++ (xb ++ [(K.k, .cells (kcells c core K) ty.t (0, 0))]))) (by simpa using h4)
  simpa using this
theorem Own.add (h : Own ty w0 K c core n s bx w) (o : Obj) : Own ty w0 K c core n s ((w.heap.size, o) :: bx) (w.alloc o) := h.boxed fun _ hs => (hs.add o).perm List.perm_middle.symm
theorem Own.setRow {m : Nat} {cs cs' : Array Value} {T : TypeId} (h : Own ty w0 K c core n s ((m, .cells cs T (0, 0)) :: bx) w) : Own ty w0 K c core n s ((m, .cells cs' T (0, 0)) :: bx) (w.setRow m cs') := h.boxed fun _ hs => (hs.perm List.perm_middle).setRow.perm List.perm_middle.symm
theorem Own.drop {p : Nat × Obj} (h : Own ty w0 K c core n s (p :: bx) w) : Own ty w0 K c core n s bx w := h.boxed fun _ hs => (hs.perm List.perm_middle).drop
theorem Own.perm (h : Own ty w0 K c core n s bx w) (hp : bx.Perm cx) : Own ty w0 K c core n s cx w := h.boxed fun ys hs => hs.perm (hp.append_left ys)
theorem Own.addRow (h : Own ty w0 K c core n s bx w) (old cs : Array Value) (T : TypeId) : Own ty w0 K c core n s ((w.heap.size, .cells cs T (0, 0)) :: bx) ((w.alloc (.cells old T)).setRow w.heap.size cs) := (h.add (.cells old T)).setRow
theorem Own.ok (h : Own ty w0 K c core n s bx w) {p : Nat × Obj} (hp : p ∈ bx) : w.heap[p.1]? = some p.2 ∧ w0.heap.size ≤ p.1 := by
  obtain ⟨xa, xf, xb, h1, h2, h3, h4⟩ := h.ex
  exact h4.ok p (by simp [hp])
theorem Own.box (h : Own ty w0 K c core n s bx w) {m : Nat} {o : Obj} (hp : (m, o) ∈ bx) : w.heap[m]? = some o := (h.ok hp).1
theorem Own.cells (h : Own ty w0 K c core n s bx w) {m : Nat} {cs : Array Value} {T : TypeId} (hp : (m, .cells cs T (0, 0)) ∈ bx) : ∀ i, w.cell? ⟨m, i, none⟩ = cs[i]? := c_cell (h.box hp)
theorem Own.kblk (h : Own ty w0 K c core n s bx w) : w.heap[K.k]? = some (.cells (kcells c core K) ty.t (0, 0)) := by
  obtain ⟨xa, xf, xb, h1, h2, h3, h4⟩ := h.ex
  exact (h4.ok (K.k, .cells (kcells c core K) ty.t (0, 0)) (by simp)).1
theorem Own.kc (h : Own ty w0 K c core n s bx w) : ∀ i, w.cell? ⟨K.k, i, none⟩ = (kcells c core K)[i]? := c_cell h.kblk
theorem Own.nums (h : Own ty w0 K c core n s bx w) : okC c = true ∧ c.fits ∧ Ar.Good c s.A ∧ Ar.Sized c s.A ∧ Mh.Good c.ms n s.F ∧ 0 ≤ n ∧ Wb.Good c.wb s.B := by
  obtain ⟨xa, xf, xb, ⟨⟨g, _, h1⟩, h1'⟩, h2, h3, h4⟩ := h.ex
  have ha := h1 w fun p hp => (h4.ok p (by simp [hp])).1
  exact ⟨ha.sz.ok, ha.fits, h1', ha.sz, h2.2.1, h2.2.2, h3.2⟩
theorem Own.more {n' : Int} (h : Own ty w0 K c core n s bx w) (hn : n ≤ n') : Own ty w0 K c core n' s bx w := by
  obtain ⟨xa, xf, xb, h1, ⟨h2, g2, g3⟩, h3, h4⟩ := h.ex
  exact ⟨⟨xa, xf, xb, h1, ⟨h2, g2.more hn, Int.le_trans g3 hn⟩, h3, h4⟩, h.tb⟩

/-- The array alone, and what a change of it makes. -/
theorem Own.ar (h : Own ty w0 K c core n s bx w) : ∃ g, Ar.Ar w K.a g c s.A ∧ ∀ e w' r, Ar.GaveA w K.a g c r e w' → Ar.Good c r.2 → Own ty w0 K c core n { s with A := r.2 } bx w' := by
  obtain ⟨xa, xf, xb, ⟨⟨g, e1, h1⟩, h1'⟩, h2, h3, h4⟩ := h.ex
  refine ⟨g, h1 w fun p hp => (h4.ok p (List.mem_append_left _ hp)).1, fun e w' r hg gd => ?_⟩
  obtain ⟨ya, y1, y2, y3⟩ := ar_boxes hg.ar
  refine ⟨⟨ya, xf, xb, ⟨⟨g, y1, y3⟩, gd⟩, h2, h3, h4.swap ⟨hg.turn.os, hg.turn.tape, hg.turn.output, hg.turn.size⟩ (fun k hk hm => hg.turn.other k hk fun e => hm (by rw [e1, e]; simp)) y2 (fun p hp => .inl ?_) ?_⟩, h.tb⟩
  · rw [e1, ← y1]; exact List.mem_map.2 ⟨p, hp, rfl⟩
  · rw [y1]; simpa using hg.ar.ne
theorem mid_perm {xa xf r : Bx} : (xa ++ (xf ++ r)).Perm (xf ++ (xa ++ r)) := by
  rw [← List.append_assoc, ← List.append_assoc]
  exact List.perm_append_comm.append_right r
/-- The file alone. -/
theorem Own.fl (h : Own ty w0 K c core n s bx w) : ∃ v, Mh.Bg ty.ft ty.fe 15 Mh.mc w w0.heap.size K.f c.ms s.F v ∧ ∀ w' m n', Mh.PutGave ty.ft ty.fe 15 Mh.mc w w0.heap.size K.f c.ms m v w' → Mh.Good c.ms n' m → n ≤ n' → Own ty w0 K c core n' { s with F := m } bx w' := by
  obtain ⟨xa, xf, xb, h1, ⟨⟨v, e2, h2⟩, g2, g3⟩, h3, h4⟩ := h.ex
  refine ⟨v, h2 w fun p hp => (h4.ok p (by simp [hp])).1, fun w' m n' ⟨v', p1, p2, p3⟩ gd hn => ?_⟩
  obtain ⟨ys, y1, y2, y3, y4⟩ := mh_boxes p1
  refine ⟨⟨xa, ys, xb, h1, ⟨⟨v', y1, y4⟩, gd, Int.le_trans g3 hn⟩, h3, Sp.perm (Sp.swap (h4.perm mid_perm) ⟨p2.os, p2.tape, p2.output, p2.size⟩ (fun k hk hm => p2.other k hk (fun e => hm ((e2 k).2 (.inl e))) (fun e => hm ((e2 k).2 (.inr e)))) y3 (fun p hp => ?_) y2) mid_perm⟩, h.tb⟩
  rcases (y1 p.1).1 (List.mem_map.2 ⟨p, hp, rfl⟩) with e | e
  · exact .inl ((e2 _).2 (.inl e))
  · rcases p3 _ e with e | e
    · exact .inl ((e2 _).2 (.inr e))
    · exact .inr e
/-- The buffer alone. -/
theorem Own.bf (h : Own ty w0 K c core n s bx w) : ∃ v, Wb.Bg ty.bt ty.be 10 Wb.mc w w0.heap.size K.b c.wb s.B v ∧ ∀ w' m, Wb.PutGave ty.bt ty.be 10 Wb.mc w w0.heap.size K.b c.wb m v w' → Wb.Good c.wb m → Own ty w0 K c core n { s with B := m } bx w' := by
  obtain ⟨xa, xf, xb, h1, h2, ⟨⟨v, e2, h3⟩, g3⟩, h4⟩ := h.ex
  refine ⟨v, h3 w fun p hp => (h4.ok p (by simp [hp])).1, fun w' m ⟨v', p1, p2, p3⟩ gd => ?_⟩
  obtain ⟨ys, y1, y2, y3, y4⟩ := wb_boxes p1
  have pp : ∀ ys : Bx, (xa ++ (xf ++ (ys ++ ((K.k, Obj.cells (kcells c core K) ty.t (0, 0)) :: bx)))).Perm (ys ++ ((xa ++ xf) ++ ((K.k, Obj.cells (kcells c core K) ty.t (0, 0)) :: bx))) := fun ys => by
    have := mid_perm (xa := xa ++ xf) (xf := ys) (r := (K.k, Obj.cells (kcells c core K) ty.t (0, 0)) :: bx)
    rwa [List.append_assoc] at this
  refine ⟨⟨xa, xf, ys, h1, h2, ⟨⟨v', y1, y4⟩, gd⟩, Sp.perm (Sp.swap (h4.perm (pp xb)) ⟨p2.os, p2.tape, p2.output, p2.size⟩ (fun k hk hm => p2.other k hk (fun e => hm ((e2 k).2 (.inl e))) (fun e => hm ((e2 k).2 (.inr e)))) y3 (fun p hp => ?_) y2) (pp ys).symm⟩, h.tb⟩
  rcases (y1 p.1).1 (List.mem_map.2 ⟨p, hp, rfl⟩) with e | e
  · exact .inl ((e2 _).2 (.inl e))
  · rcases p3 _ e with e | e
    · exact .inl ((e2 _).2 (.inr e))
    · exact .inr e

end Go.Proofs.YtlfhkjjjocmpbaaGreatDoor.Cc
