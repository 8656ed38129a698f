/-
  The document's file of a law, beside boxes; the calls upon it, by what they answer; an operation.
-/
import Derived.Test.YtcfcgejeiihgnaaMhN
import Derived.Test.YtcfcgejeiihgnaaMhV
import Derived.Test.YtcfcgejeiihgnaaMhW
import Derived.Test.YtcfcgejeiihgnaaMhX
import Derived.Test.YtcfcgejeiihgnaaMhY
namespace Go.Proofs.Ytcfcgejeiihgnaa
open Go Go.RowKit

theorem Blk.nil : Blk [] := fun x hx => by cases hx
theorem Blk.set {l : List Ms} (h : Blk l) {i : Nat} {y : Ms} (hy : y.nd = -1 → y.wd = d0) : Blk (l.set i y) := fun z hz => by
  rcases List.mem_or_eq_of_mem_set hz with h1 | rfl
  · exact h z h1
  · exact hy
theorem Blk.open {l : List Ms} (h : Blk l) (room line kind : Int) : Blk (openP room l line kind).2 := by
  unfold openP
  split
  · exact h
  · split
    · exact h
    · split
      · exact h
      · intro z hz
        rcases List.mem_append.1 hz with h1 | h1
        · exact h z h1
        · obtain rfl : z = newM line kind := by simpa using h1
          exact fun _ => rfl
theorem Blk.chg {l : List Ms} (h : Blk l) (line : Int) {f : Ms → Option Ms} (hf : ∀ x ∈ l, ∀ y, f x = some y → y.nd = -1 → y.wd = d0) : Blk (Go.Proofs.Ytcfcgejeiihgnaa.chg l line f).2 := by
  rcases hp : fnd l line with _ | i
  · rw [chg_none f hp]; exact h
  · obtain ⟨x, hx, _, _⟩ := fnd_some hp
    rcases hq : f x with _ | y
    · rw [chg_no hp hx hq]; exact h
    · rw [chg_yes hp hx hq]
      exact h.set (hf x (List.mem_of_getElem? hx) y hq)
theorem Blk.data {room k : Int} {l : List Ms} (h : Blk l) (g : Good room k l) (line acks own : Int) (d : Wd) : Blk (Go.Proofs.Ytcfcgejeiihgnaa.chg l line (dataF acks own d)).2 := h.chg line fun x hx y e hn => by
  rcases Bool.eq_false_or_eq_true (tkes x acks own) with ht | ht
  · rw [dataF_yes d ht] at e
    cases e
    have := (tkes_iff ht).2.1
    have := (g.each x hx).g0
    simp only [dataY] at hn
    omega
  · rw [dataF_no d ht] at e; cases e
theorem Blk.grant {room k : Int} {l : List Ms} (h : Blk l) (g : Good room k l) (line acks : Int) : Blk (Go.Proofs.Ytcfcgejeiihgnaa.chg l line (grantF acks)).2 := h.chg line fun x hx y e hn => by
  rcases Bool.eq_false_or_eq_true (tkes x acks 4) with ht | ht
  · rw [grantF_yes ht] at e
    cases e
    have := (tkes_iff ht).2.1
    have := (g.each x hx).g0
    simp only [grantY] at hn
    omega
  · rw [grantF_no ht] at e; cases e
theorem Blk.ack {l : List Ms} (h : Blk l) (line : Int) : Blk (Go.Proofs.Ytcfcgejeiihgnaa.chg l line ackF).2 := h.chg line fun x hx y e hn => by
  rcases Bool.eq_false_or_eq_true (x.kd == 1 || came x) with ht | ht
  · rw [ackF_no ht] at e; cases e
  · rw [ackF_yes ht] at e
    cases e
    exact h x hx hn
theorem Blk.owe {l : List Ms} (h : Blk l) (line : Int) : Blk (oweP l line).2 := by
  rcases hp : fnd l line with _ | i
  · rw [oweP_none hp]; exact h
  · obtain ⟨x, hx, _, _⟩ := fnd_some hp
    rcases Bool.eq_false_or_eq_true (x.os || !came x) with ht | ht
    · rw [oweP_no hp hx ht]; exact h
    · rw [oweP_yes hp hx ht]
      exact h.set (y := owesY x) fun hn => h x (List.mem_of_getElem? hx) hn
theorem Blk.close {l : List Ms} (h : Blk l) (line : Int) : Blk (closeP l line).2 := by
  rcases hp : fnd l line with _ | i
  · rw [closeP_none hp]; exact h
  · obtain ⟨x, hx, _, _⟩ := fnd_some hp
    rcases Bool.eq_false_or_eq_true x.os with ht | ht
    · rw [closeP_yes hp hx ht]
      exact fun z hz => h z ((List.eraseIdx_sublist l i).subset hz)
    · rw [closeP_no hp hx ht]; exact h

/-- The document's file of a law, behind so many calls, and boxes that it keeps. -/
structure OwnD (w : World) (b : Nat) (room k : Int) (l : List Ms) (bx : List (Nat × Obj)) (wr : World) : Prop where
  bg : ∃ v, BgD wr w.heap.size b room l v ∧ ∀ p ∈ bx, v.ownBlock ≠ some p.1
  gd : Good room k l
  bk : Blk l
  k0 : 0 ≤ k
  bl : Below w.heap.size w wr
  bxs : ∀ p ∈ bx, wr.heap[p.1]? = some p.2 ∧ p.1 ≠ b ∧ w.heap.size ≤ p.1
  nd : (bx.map Prod.fst).Nodup
variable {w wr wr' : World} {b : Nat} {room k : Int} {l : List Ms} {bx : List (Nat × Obj)}
theorem OwnD.blt (h : OwnD w b room k l bx wr) : b < wr.heap.size := by obtain ⟨v, hb, _⟩ := h.bg; exact hb.lt
theorem OwnD.bge (h : OwnD w b room k l bx wr) : w.heap.size ≤ b := by obtain ⟨v, hb, _⟩ := h.bg; exact hb.big
theorem OwnD.step (h : OwnD w b room k l bx wr) (hb : Below wr.heap.size wr wr') : OwnD w b room k l bx wr' := by
  obtain ⟨v, h1, h2⟩ := h.bg
  exact ⟨⟨v, h1.below hb, h2⟩, h.gd, h.bk, h.k0, bstep h.bl hb, fun p hp => ⟨(hb.block p.1 (lt_of_block (h.bxs p hp).1)).trans (h.bxs p hp).1, (h.bxs p hp).2⟩, h.nd⟩
theorem OwnD.drewN (h : OwnD w b room k l bx wr) (n : Nat) : OwnD w b room k l bx (wr.drewN n) := h.step (below_drewN (Below.refl _ _) n)
theorem OwnD.drew (h : OwnD w b room k l bx wr) : OwnD w b room k l bx wr.drew := h.step (Below.refl _ _).drew
theorem OwnD.more {k' : Int} (h : OwnD w b room k l bx wr) (hk : k ≤ k') : OwnD w b room k' l bx wr := ⟨h.bg, h.gd.more hk, h.bk, Int.le_trans h.k0 hk, h.bl, h.bxs, h.nd⟩
/-- Behind a change. -/
theorem OwnD.gave {m : List Ms} {k' : Int} {v : Value} (h : OwnD w b room k l bx wr) (hv : BgD wr w.heap.size b room l v ∧ ∀ p ∈ bx, v.ownBlock ≠ some p.1) (hp : PutGave 52 39 15 mc wr w.heap.size b room m v wr') (hg : Good room k' m) (hbk : Blk m) (hk : 0 ≤ k') : OwnD w b room k' m bx wr' := by
  obtain ⟨v', h1, h2, h3⟩ := hp
  refine ⟨⟨v', h1, fun p hpx e => ?_⟩, hg, hbk, hk, h.bl.trans (h2.below hv.1 h.bl.size), fun p hpx => ?_, h.nd⟩
  · rcases h3 p.1 e with e1 | e1
    · exact hv.2 p hpx e1
    · have := lt_of_block (h.bxs p hpx).1
      omega
  · obtain ⟨g1, g2, g3⟩ := h.bxs p hpx
    exact ⟨(h2.other p.1 (lt_of_block g1) g2 (hv.2 p hpx)).trans g1, g2, g3⟩
/-- A box more, and less. -/
theorem OwnD.add (h : OwnD w b room k l bx wr) (o : Obj) : OwnD w b room k l ((wr.heap.size, o) :: bx) (wr.alloc o) := by
  have hs := h.step (balloc wr o)
  obtain ⟨v, h1, h2⟩ := hs.bg
  obtain ⟨v0, h10, h20⟩ := h.bg
  refine ⟨⟨v0, h10.below (balloc wr o), fun p hp => ?_⟩, h.gd, h.bk, h.k0, hs.bl, fun p hp => ?_, ?_⟩
  · rcases List.mem_cons.1 hp with rfl | hp
    · exact h10.own_lt (Nat.le_refl _)
    · exact h20 p hp
  · rcases List.mem_cons.1 hp with rfl | hp
    · exact ⟨heap_alloc_new wr o, by have := h.blt; simp only; omega, h.bl.size⟩
    · exact hs.bxs p hp
  · rw [List.map_cons, List.nodup_cons]
    refine ⟨fun hm => ?_, h.nd⟩
    obtain ⟨p, hp, e⟩ := List.mem_map.1 hm
    have := lt_of_block (h.bxs p hp).1
    omega
theorem OwnD.addRow (h : OwnD w b room k l bx wr) (old cs : Array Value) (T : TypeId) : OwnD w b room k l ((wr.heap.size, .cells cs T (0, 0)) :: bx) ((wr.alloc (.cells old T)).setRow wr.heap.size cs) := by
  have hs := h.add (.cells old T)
  have hb : Below wr.heap.size wr ((wr.alloc (.cells old T)).setRow wr.heap.size cs) := below_setRow (balloc wr _) (Nat.le_refl _) _
  have h2 := h.step hb
  obtain ⟨v0, h10, h20⟩ := h.bg
  refine ⟨⟨v0, h10.below hb, fun p hp => ?_⟩, h.gd, h.bk, h.k0, h2.bl, fun p hp => ?_, hs.nd⟩
  · rcases List.mem_cons.1 hp with rfl | hp
    · exact h10.own_lt (Nat.le_refl _)
    · exact h20 p hp
  · rcases List.mem_cons.1 hp with rfl | hp
    · exact ⟨setRow_heap _ _ _ _ _ _ (heap_alloc_new wr _), by have := h.blt; simp only; omega, h.bl.size⟩
    · exact h2.bxs p hp
theorem OwnD.drop {p : Nat × Obj} (h : OwnD w b room k l (p :: bx) wr) : OwnD w b room k l bx wr := by
  obtain ⟨v, h1, h2⟩ := h.bg
  exact ⟨⟨v, h1, fun q hq => h2 q (List.mem_cons_of_mem _ hq)⟩, h.gd, h.bk, h.k0, h.bl, fun q hq => h.bxs q (List.mem_cons_of_mem _ hq), (List.nodup_cons.1 (by rw [← List.map_cons]; exact h.nd)).2⟩
theorem OwnD.box (h : OwnD w b room k l bx wr) {n : Nat} {o : Obj} (hm : (n, o) ∈ bx) : wr.heap[n]? = some o := (h.bxs _ hm).1
theorem OwnD.cells (h : OwnD w b room k l bx wr) {n : Nat} {cs : Array Value} {T : TypeId} (hm : (n, .cells cs T (0, 0)) ∈ bx) : ∀ i, wr.cell? ⟨n, i, none⟩ = cs[i]? := blk_cell (h.bxs _ hm).1
/-- The first box is another one. -/
theorem OwnD.turn {n : Nat} {o o' : Obj} (h : OwnD w b room k l ((n, o) :: bx) wr) (hg : wr.grownBy wr' (some n)) (ho : wr'.heap[n]? = some o') : OwnD w b room k l ((n, o') :: bx) wr' := by
  obtain ⟨v, h1, h2⟩ := h.bg
  obtain ⟨g1, g2, g3⟩ := h.bxs (n, o) (List.mem_cons_self ..)
  have hn : v.ownBlock ≠ some n := h2 (n, o) (List.mem_cons_self ..)
  have hnd := List.nodup_cons.1 (show ((n, o) :: bx).map Prod.fst |>.Nodup from h.nd)
  refine ⟨⟨v, h1.keep (hg.block b h1.lt (by simp only [ne_eq, Option.some.injEq]; exact fun e => g2 e.symm)) (fun q hq => hg.block q (h1.row.lt q hq).2 (by simp only [ne_eq, Option.some.injEq]; rintro rfl; exact hn hq)), fun p hp => ?_⟩, h.gd, h.bk, h.k0, h.bl.grown hg h.bl.size (fun q hq => by cases hq; exact g3), fun p hp => ?_, hnd.1 |> fun _ => h.nd⟩
  · rcases List.mem_cons.1 hp with rfl | hp
    · exact hn
    · exact h2 p (List.mem_cons_of_mem _ hp)
  · rcases List.mem_cons.1 hp with rfl | hp
    · exact ⟨ho, g2, g3⟩
    · obtain ⟨q1, q2, q3⟩ := h.bxs p (List.mem_cons_of_mem _ hp)
      refine ⟨(hg.block p.1 (lt_of_block q1) (by simp only [ne_eq, Option.some.injEq]; intro e; exact hnd.1 (List.mem_map.2 ⟨p, hp, e⟩))).trans q1, q2, q3⟩
theorem OwnD.swap {p q : Nat × Obj} (h : OwnD w b room k l (p :: q :: bx) wr) : OwnD w b room k l (q :: p :: bx) wr := by
  obtain ⟨v, h1, h2⟩ := h.bg
  have hp : ∀ x, x ∈ q :: p :: bx → x ∈ p :: q :: bx := fun x hx => by
    simp only [List.mem_cons] at hx ⊢
    rcases hx with h | h | h
    · exact .inr (.inl h)
    · exact .inl h
    · exact .inr (.inr h)
  exact ⟨⟨v, h1, fun x hx => h2 x (hp x hx)⟩, h.gd, h.bk, h.k0, h.bl, fun x hx => h.bxs x (hp x hx), by
    have := h.nd
    rw [List.map_cons, List.map_cons] at this ⊢
    exact (List.Perm.swap _ _ _).nodup_iff.1 this⟩
theorem OwnD.setRow {n : Nat} {cs cs' : Array Value} {T : TypeId} (h : OwnD w b room k l ((n, .cells cs T (0, 0)) :: bx) wr) : OwnD w b room k l ((n, .cells cs' T (0, 0)) :: bx) (wr.setRow n cs') := by
  have g1 := h.box (List.mem_cons_self ..)
  exact h.turn ⟨rfl, rfl, rfl, by simp, fun q hq hne => setRow_other wr n q cs' (fun e => hne (by rw [e]))⟩ (setRow_heap _ _ _ _ _ _ g1)

theorem OwnD.open (h : OwnD w b room k l bx wr) (line kind : Int) {n : Int} {m : List Ms} (e : openP room l line kind = (n, m)) :
    Calls Try.prog 22 #[.pointer (some ⟨b, 0, none⟩), .int .i64 line, .int .i64 kind] wr fun e w' => e = .returned (.int .i64 n) ∧ OwnD w b room (k + 1) m bx w' := by
  obtain ⟨v, h1, h2⟩ := h.bg
  have hgd := h.gd.open h.k0 line kind
  have hbk := h.bk.open room line kind
  have hk := h.k0
  have := h.gd.short
  refine (refOpen_any h1 h.bl.size line kind h.gd.r1 h.gd.r2 h.gd.len).mono fun e' w' hg => ?_
  rw [e] at hg hgd hbk
  exact ⟨hg.res, h.gave ⟨h1, h2⟩ hg.put hgd hbk (by omega)⟩
theorem OwnD.data (h : OwnD w b room k l bx wr) (line acks own : Int) (d : Wd) {n : Int} {m : List Ms} (e : chg l line (dataF acks own d) = (n, m)) :
    Calls Try.prog 23 #[.pointer (some ⟨b, 0, none⟩), .int .i64 line, .int .i64 acks, .int .i64 own, .agg (dcells d)] wr fun e w' => e = .returned (.int .i64 n) ∧ OwnD w b room (k + 1) m bx w' := by
  obtain ⟨v, h1, h2⟩ := h.bg
  have hgd := h.gd.data line acks own d
  have hbk := h.bk.data h.gd line acks own d
  have hk := h.k0
  have := h.gd.short
  refine (refData_any h1 h.gd line acks own d).mono fun e' w' hg => ?_
  rw [e] at hg hgd hbk
  exact ⟨hg.res, h.gave ⟨h1, h2⟩ hg.put hgd hbk (by omega)⟩
theorem OwnD.grant (h : OwnD w b room k l bx wr) (line acks : Int) {n : Int} {m : List Ms} (e : chg l line (grantF acks) = (n, m)) :
    Calls Try.prog 24 #[.pointer (some ⟨b, 0, none⟩), .int .i64 line, .int .i64 acks] wr fun e w' => e = .returned (.int .i64 n) ∧ OwnD w b room (k + 1) m bx w' := by
  obtain ⟨v, h1, h2⟩ := h.bg
  have hgd := h.gd.grant line acks
  have hbk := h.bk.grant h.gd line acks
  have hk := h.k0
  have := h.gd.short
  refine (refGrant_any h1 h.gd h.bk line acks).mono fun e' w' hg => ?_
  rw [e] at hg hgd hbk
  exact ⟨hg.res, h.gave ⟨h1, h2⟩ hg.put hgd hbk (by omega)⟩
theorem OwnD.ack (h : OwnD w b room k l bx wr) (hk9 : k ≤ 1000) (line : Int) {n : Int} {m : List Ms} (e : chg l line ackF = (n, m)) :
    Calls Try.prog 25 #[.pointer (some ⟨b, 0, none⟩), .int .i64 line] wr fun e w' => e = .returned (.int .i64 n) ∧ OwnD w b room (k + 1) m bx w' := by
  obtain ⟨v, h1, h2⟩ := h.bg
  have hgd := h.gd.ack line
  have hbk := h.bk.ack line
  have hk := h.k0
  have := h.gd.short
  refine (refAck_any h1 h.gd hk9 line).mono fun e' w' hg => ?_
  rw [e] at hg hgd hbk
  exact ⟨hg.res, h.gave ⟨h1, h2⟩ hg.put hgd hbk (by omega)⟩
theorem OwnD.close (h : OwnD w b room k l bx wr) (line : Int) {n : Int} {m : List Ms} (e : closeP l line = (n, m)) :
    Calls Try.prog 27 #[.pointer (some ⟨b, 0, none⟩), .int .i64 line] wr fun e w' => e = .returned (.int .i64 n) ∧ OwnD w b room (k + 1) m bx w' := by
  obtain ⟨v, h1, h2⟩ := h.bg
  have hgd := h.gd.close line
  have hbk := h.bk.close line
  have hk := h.k0
  have := h.gd.short
  refine (refClose_any h1 h.bl.size line (by omega)).mono fun e' w' hg => ?_
  rw [e] at hg hgd hbk
  exact ⟨hg.res, h.gave ⟨h1, h2⟩ hg.put hgd hbk (by omega)⟩
theorem OwnD.owe (h : OwnD w b room k l bx wr) (line : Int) {x : Ms} {q : Bool} {m : List Ms} (e : oweP l line = ((x, q), m)) :
    Calls Try.prog 26 #[.pointer (some ⟨b, 0, none⟩), .int .i64 line] wr fun e w' => e = .returned (.tuple #[.agg (mcells x), .bool q]) ∧ OwnD w b room (k + 1) m bx w' := by
  obtain ⟨v, h1, h2⟩ := h.bg
  have hgd := h.gd.owe line
  have hbk := h.bk.owe line
  have hk := h.k0
  refine (refOwe_any h1 h.gd line).mono fun e' w' hg => ?_
  unfold GaveE at hg
  rw [e] at hg hgd hbk
  exact ⟨hg.1, h.gave ⟨h1, h2⟩ hg.2 hgd hbk (by omega)⟩
theorem OwnD.get (h : OwnD w b room k l bx wr) (line : Int) {x : Ms} {q : Bool} (e : getP l line = (x, q)) :
    Calls Try.prog 14 #[.pointer (some ⟨b, 0, none⟩), .int .i64 line] wr fun e w' => e = .returned (.tuple #[.agg (mcells x), .bool q]) ∧ Below wr.heap.size wr w' := by
  obtain ⟨v, h1, h2⟩ := h.bg
  have := h.gd.short
  refine (refGet_any h1 line (by omega)).mono fun e' w' hg => ?_
  rw [e] at hg
  exact hg
theorem OwnD.owing (h : OwnD w b room k l bx wr) {n : Int} {q : Bool} (e : owingP l = (n, q)) :
    Calls Try.prog 12 #[.pointer (some ⟨b, 0, none⟩)] wr fun e w' => e = .returned (.tuple #[.int .i64 n, .bool q]) ∧ wr = w' := by
  obtain ⟨v, h1, h2⟩ := h.bg
  have := h.gd.short
  refine (refOwing_any h1 (by omega)).mono fun e' w' hg => ?_
  rw [e] at hg
  exact hg
/-- What an operation gives. -/
def RetDD (x : Ms) (q : Bool) (n : Int) (P : World → Prop) (e : Ending) (w' : World) : Prop := e = .returned (.tuple #[.agg (mcells x), .bool q, .int .i64 n]) ∧ P w'
theorem own_ret {wr : World} {x : Ms} {q : Bool} {n : Int} {P : World → Prop} {a : Act} {g : Nat} (hp : a.tmps.getD 4 undef = .pointer (some ⟨g, 0, none⟩)) (hq : a.tmps.getD 5 undef = .bool q) (hn : a.tmps.getD 6 undef = .int .i64 n) (hd : a.defers = []) (hg : wr.heap[g]? = some (.cells (mcells x) 39 (0, 0))) (hb : P wr) :
    bodyPost Try.prog Try.f10 (RetDD x q n P) Exit.ret a wr :=
  bodyPost_ret (v := .tuple #[.agg (mcells x), a.tmps.getD 5 undef, a.tmps.getD 6 undef]) (results_cell_three Try.results10 _ _ g 39 _ (0, 0) _ hp hg Try.underlying39 rfl (by kernel_rfl)) hd ⟨by rw [hq, hn], hb⟩
theorem OwnD.add2 (h : OwnD w b room k l bx wr) (o1 o2 : Obj) : OwnD w b room k l ((wr.heap.size + 1, o2) :: (wr.heap.size, o1) :: bx) ((wr.alloc o1).alloc o2) := by
  have := (h.add o1).add o2
  rwa [show (wr.alloc o1).heap.size = wr.heap.size + 1 by simp] at this

set_option maxHeartbeats 1000000 in
theorem own_open (h : OwnD w b room k l bx wr) (x : Mo) (k0 : (x.k == 0) = true) {n : Int} {m : List Ms} (e : openP room l x.ln x.n = (n, m)) :
    Calls Try.prog 10 #[.pointer (some ⟨b, 0, none⟩), .agg (ocells x)] wr (RetDD m0 false n (OwnD w b room (k + 1) m bx)) := by
  have HS := Lib.hid (h.add2 (.cells (ocells x) 38) (.cells #[.int .i64 0, .int .i64 0, .int .i64 0, .int .i64 0, .int .i64 0, .int .i64 0, .int .i64 0, .int .i64 0, .int .i64 0, .int .i64 0, .int .i64 0, .int .i64 0, .int .i64 0, .bool false, .bool false] 39))
  have hA := HS.out.cells (List.mem_cons_of_mem _ (List.mem_cons_self ..))
  have HE := Lib.hid e
  clear h e
  go_enter Try.func10, Try.ntmps10
  go_wp2_with fail
  refine (HS.out.open x.ln x.n HE.out).mono ?_
  rintro e w1 ⟨rfl, ho⟩
  have H1 := Lib.hid ho
  have h4 := H1.out.box (List.mem_cons_self ..)
  clear ho hA HS HE
  go_wp2_with ((with_reducible refine wpList_store_row (o := ⟨none, _, _, _, _, _⟩) rfl 39 (.tmp 4) (.tmp 13) rfl (wr.heap.size + 1) (mcells m0) ?sx ?sy 39 ?old ?sg ?si ?so ?s1 ?_); (case sx => rfl); (case sy => rfl); (case old => exact #[.int .i64 0, .int .i64 0, .int .i64 0, .int .i64 0, .int .i64 0, .int .i64 0, .int .i64 0, .int .i64 0, .int .i64 0, .int .i64 0, .int .i64 0, .int .i64 0, .int .i64 0, .bool false, .bool false]); (case sg => exact h4); (case si => kernel_rfl); (case so => rfl); (case s1 => kernel_rfl))
  exact own_ret rfl rfl rfl rfl (setRow_heap _ _ _ _ _ _ h4) H1.out.setRow.drop.drop

set_option maxHeartbeats 1000000 in
theorem own_data (h : OwnD w b room k l bx wr) (x : Mo) (k0 : (x.k == 0) = false) (k1 : (x.k == 1) = true) {n : Int} {m : List Ms} (e : chg l x.ln (dataF x.n x.ow x.wd) = (n, m)) :
    Calls Try.prog 10 #[.pointer (some ⟨b, 0, none⟩), .agg (ocells x)] wr (RetDD m0 false n (OwnD w b room (k + 1) m bx)) := by
  have HS := Lib.hid (h.add2 (.cells (ocells x) 38) (.cells #[.int .i64 0, .int .i64 0, .int .i64 0, .int .i64 0, .int .i64 0, .int .i64 0, .int .i64 0, .int .i64 0, .int .i64 0, .int .i64 0, .int .i64 0, .int .i64 0, .int .i64 0, .bool false, .bool false] 39))
  have hA := HS.out.cells (List.mem_cons_of_mem _ (List.mem_cons_self ..))
  have HE := Lib.hid e
  clear h e
  go_enter Try.func10, Try.ntmps10
  go_wp2_with fail
  refine (HS.out.data x.ln x.n x.ow x.wd HE.out).mono ?_
  rintro e w1 ⟨rfl, ho⟩
  have H1 := Lib.hid ho
  have h4 := H1.out.box (List.mem_cons_self ..)
  clear ho hA HS HE
  go_wp2_with ((with_reducible refine wpList_store_row (o := ⟨none, _, _, _, _, _⟩) rfl 39 (.tmp 4) (.tmp 22) rfl (wr.heap.size + 1) (mcells m0) ?sx ?sy 39 ?old ?sg ?si ?so ?s1 ?_); (case sx => rfl); (case sy => rfl); (case old => exact #[.int .i64 0, .int .i64 0, .int .i64 0, .int .i64 0, .int .i64 0, .int .i64 0, .int .i64 0, .int .i64 0, .int .i64 0, .int .i64 0, .int .i64 0, .int .i64 0, .int .i64 0, .bool false, .bool false]); (case sg => exact h4); (case si => kernel_rfl); (case so => rfl); (case s1 => kernel_rfl))
  exact own_ret rfl rfl rfl rfl (setRow_heap _ _ _ _ _ _ h4) H1.out.setRow.drop.drop

set_option maxHeartbeats 1000000 in
theorem own_grant (h : OwnD w b room k l bx wr) (x : Mo) (k0 : (x.k == 0) = false) (k1 : (x.k == 1) = false) (k2 : (x.k == 2) = true) {n : Int} {m : List Ms} (e : chg l x.ln (grantF x.n) = (n, m)) :
    Calls Try.prog 10 #[.pointer (some ⟨b, 0, none⟩), .agg (ocells x)] wr (RetDD m0 false n (OwnD w b room (k + 1) m bx)) := by
  have HS := Lib.hid (h.add2 (.cells (ocells x) 38) (.cells #[.int .i64 0, .int .i64 0, .int .i64 0, .int .i64 0, .int .i64 0, .int .i64 0, .int .i64 0, .int .i64 0, .int .i64 0, .int .i64 0, .int .i64 0, .int .i64 0, .int .i64 0, .bool false, .bool false] 39))
  have hA := HS.out.cells (List.mem_cons_of_mem _ (List.mem_cons_self ..))
  have HE := Lib.hid e
  clear h e
  go_enter Try.func10, Try.ntmps10
  go_wp2_with fail
  refine (HS.out.grant x.ln x.n HE.out).mono ?_
  rintro e w1 ⟨rfl, ho⟩
  have H1 := Lib.hid ho
  have h4 := H1.out.box (List.mem_cons_self ..)
  clear ho hA HS HE
  go_wp2_with ((with_reducible refine wpList_store_row (o := ⟨none, _, _, _, _, _⟩) rfl 39 (.tmp 4) (.tmp 35) rfl (wr.heap.size + 1) (mcells m0) ?sx ?sy 39 ?old ?sg ?si ?so ?s1 ?_); (case sx => rfl); (case sy => rfl); (case old => exact #[.int .i64 0, .int .i64 0, .int .i64 0, .int .i64 0, .int .i64 0, .int .i64 0, .int .i64 0, .int .i64 0, .int .i64 0, .int .i64 0, .int .i64 0, .int .i64 0, .int .i64 0, .bool false, .bool false]); (case sg => exact h4); (case si => kernel_rfl); (case so => rfl); (case s1 => kernel_rfl))
  exact own_ret rfl rfl rfl rfl (setRow_heap _ _ _ _ _ _ h4) H1.out.setRow.drop.drop

set_option maxHeartbeats 1000000 in
theorem own_ack (h : OwnD w b room k l bx wr) (x : Mo) (k0 : (x.k == 0) = false) (k1 : (x.k == 1) = false) (k2 : (x.k == 2) = false) (k3 : (x.k == 3) = true) {n : Int} {m : List Ms} (hk9 : k ≤ 1000) (e : chg l x.ln ackF = (n, m)) :
    Calls Try.prog 10 #[.pointer (some ⟨b, 0, none⟩), .agg (ocells x)] wr (RetDD m0 false n (OwnD w b room (k + 1) m bx)) := by
  have HS := Lib.hid (h.add2 (.cells (ocells x) 38) (.cells #[.int .i64 0, .int .i64 0, .int .i64 0, .int .i64 0, .int .i64 0, .int .i64 0, .int .i64 0, .int .i64 0, .int .i64 0, .int .i64 0, .int .i64 0, .int .i64 0, .int .i64 0, .bool false, .bool false] 39))
  have hA := HS.out.cells (List.mem_cons_of_mem _ (List.mem_cons_self ..))
  have HE := Lib.hid e
  clear h e
  go_enter Try.func10, Try.ntmps10
  go_wp2_with fail
  refine (HS.out.ack hk9 x.ln HE.out).mono ?_
  rintro e w1 ⟨rfl, ho⟩
  have H1 := Lib.hid ho
  have h4 := H1.out.box (List.mem_cons_self ..)
  clear ho hA HS HE
  go_wp2_with ((with_reducible refine wpList_store_row (o := ⟨none, _, _, _, _, _⟩) rfl 39 (.tmp 4) (.tmp 44) rfl (wr.heap.size + 1) (mcells m0) ?sx ?sy 39 ?old ?sg ?si ?so ?s1 ?_); (case sx => rfl); (case sy => rfl); (case old => exact #[.int .i64 0, .int .i64 0, .int .i64 0, .int .i64 0, .int .i64 0, .int .i64 0, .int .i64 0, .int .i64 0, .int .i64 0, .int .i64 0, .int .i64 0, .int .i64 0, .int .i64 0, .bool false, .bool false]); (case sg => exact h4); (case si => kernel_rfl); (case so => rfl); (case s1 => kernel_rfl))
  exact own_ret rfl rfl rfl rfl (setRow_heap _ _ _ _ _ _ h4) H1.out.setRow.drop.drop

set_option maxHeartbeats 1000000 in
theorem own_close (h : OwnD w b room k l bx wr) (x : Mo) (k0 : (x.k == 0) = false) (k1 : (x.k == 1) = false) (k2 : (x.k == 2) = false) (k3 : (x.k == 3) = false) (k4 : (x.k == 4) = false) {n : Int} {m : List Ms} (e : closeP l x.ln = (n, m)) :
    Calls Try.prog 10 #[.pointer (some ⟨b, 0, none⟩), .agg (ocells x)] wr (RetDD m0 false n (OwnD w b room (k + 1) m bx)) := by
  have HS := Lib.hid (h.add2 (.cells (ocells x) 38) (.cells #[.int .i64 0, .int .i64 0, .int .i64 0, .int .i64 0, .int .i64 0, .int .i64 0, .int .i64 0, .int .i64 0, .int .i64 0, .int .i64 0, .int .i64 0, .int .i64 0, .int .i64 0, .bool false, .bool false] 39))
  have hA := HS.out.cells (List.mem_cons_of_mem _ (List.mem_cons_self ..))
  have HE := Lib.hid e
  clear h e
  go_enter Try.func10, Try.ntmps10
  go_wp2_with fail
  refine (HS.out.close x.ln HE.out).mono ?_
  rintro e w1 ⟨rfl, ho⟩
  have H1 := Lib.hid ho
  have h4 := H1.out.box (List.mem_cons_self ..)
  clear ho hA HS HE
  go_wp2_with ((with_reducible refine wpList_store_row (o := ⟨none, _, _, _, _, _⟩) rfl 39 (.tmp 4) (.tmp 60) rfl (wr.heap.size + 1) (mcells m0) ?sx ?sy 39 ?old ?sg ?si ?so ?s1 ?_); (case sx => rfl); (case sy => rfl); (case old => exact #[.int .i64 0, .int .i64 0, .int .i64 0, .int .i64 0, .int .i64 0, .int .i64 0, .int .i64 0, .int .i64 0, .int .i64 0, .int .i64 0, .int .i64 0, .int .i64 0, .int .i64 0, .bool false, .bool false]); (case sg => exact h4); (case si => kernel_rfl); (case so => rfl); (case s1 => kernel_rfl))
  exact own_ret rfl rfl rfl rfl (setRow_heap _ _ _ _ _ _ h4) H1.out.setRow.drop.drop

set_option maxHeartbeats 1000000 in
theorem own_owe (h : OwnD w b room k l bx wr) (x : Mo) (k0 : (x.k == 0) = false) (k1 : (x.k == 1) = false) (k2 : (x.k == 2) = false) (k3 : (x.k == 3) = false) (k4 : (x.k == 4) = true) {y : Ms} {q : Bool} {m : List Ms} (e : oweP l x.ln = ((y, q), m)) :
    Calls Try.prog 10 #[.pointer (some ⟨b, 0, none⟩), .agg (ocells x)] wr (RetDD y q 0 (OwnD w b room (k + 1) m bx)) := by
  have HS := Lib.hid (h.add2 (.cells (ocells x) 38) (.cells #[.int .i64 0, .int .i64 0, .int .i64 0, .int .i64 0, .int .i64 0, .int .i64 0, .int .i64 0, .int .i64 0, .int .i64 0, .int .i64 0, .int .i64 0, .int .i64 0, .int .i64 0, .bool false, .bool false] 39))
  have hA := HS.out.cells (List.mem_cons_of_mem _ (List.mem_cons_self ..))
  have HE := Lib.hid e
  clear h e
  go_enter Try.func10, Try.ntmps10
  go_wp2_with fail
  refine (HS.out.owe x.ln HE.out).mono ?_
  rintro e w1 ⟨rfl, ho⟩
  have H1 := Lib.hid (ho.addRow #[.int .i64 0, .int .i64 0, .int .i64 0, .int .i64 0, .int .i64 0, .int .i64 0, .int .i64 0, .int .i64 0, .int .i64 0, .int .i64 0, .int .i64 0, .int .i64 0, .int .i64 0, .bool false, .bool false] (mcells y) 39)
  clear ho hA HS HE
  go_wp2_with (first
    | ((with_reducible refine wpList_store_row (o := ⟨none, _, _, _, _, _⟩) rfl 39 (.tmp 7) (.tmp 56) rfl w1.heap.size (mcells y) ?sx ?sy 39 ?old ?sg ?si ?so ?s1 ?_); (case sx => rfl); (case sy => rfl); (case old => exact mcells m0); (case sg => exact heap_alloc_new w1 _); (case si => kernel_rfl); (case so => rfl); (case s1 => kernel_rfl); generalize (w1.alloc (.cells #[.int .i64 0, .int .i64 0, .int .i64 0, .int .i64 0, .int .i64 0, .int .i64 0, .int .i64 0, .int .i64 0, .int .i64 0, .int .i64 0, .int .i64 0, .int .i64 0, .int .i64 0, .bool false, .bool false] 39)).setRow w1.heap.size (mcells y) = w2 at *; generalize w1.heap.size = k7 at *; have h7 := H1.out.box (List.mem_cons_self ..); have h4 := H1.out.box (List.mem_cons_of_mem _ (List.mem_cons_self ..)))
    | ((with_reducible refine wpList_load_row (o := ⟨some 58, _, _, _, _, _⟩) rfl 39 (.tmp 7) rfl k7 ?lx 39 (mcells y) (0, 0) _ ?lg Try.underlying39 ?ld ?li ?_); (case lx => rfl); (case lg => exact h7); (case ld => rfl); (case li => kernel_rfl))
    | ((with_reducible refine wpList_store_row (o := ⟨none, _, _, _, _, _⟩) rfl 39 (.tmp 4) (.tmp 58) rfl (wr.heap.size + 1) (mcells y) ?sx ?sy 39 ?old ?sg ?si ?so ?s1 ?_); (case sx => rfl); (case sy => rfl); (case old => exact #[.int .i64 0, .int .i64 0, .int .i64 0, .int .i64 0, .int .i64 0, .int .i64 0, .int .i64 0, .int .i64 0, .int .i64 0, .int .i64 0, .int .i64 0, .int .i64 0, .int .i64 0, .bool false, .bool false]); (case sg => exact h4); (case si => kernel_rfl); (case so => rfl); (case s1 => kernel_rfl)))
  exact own_ret rfl rfl rfl rfl (setRow_heap _ _ _ _ _ _ h4) H1.out.drop.setRow.drop.drop

/-- An operation. -/
theorem OwnD.op (h : OwnD w b room k l bx wr) (hk9 : k ≤ 1000) (x : Mo) {y : Ms} {q : Bool} {n : Int} {m : List Ms} (e : doP room l x = ((y, q, n), m)) :
    Calls Try.prog 10 #[.pointer (some ⟨b, 0, none⟩), .agg (ocells x)] wr fun e w' => e = .returned (.tuple #[.agg (mcells y), .bool q, .int .i64 n]) ∧ OwnD w b room (k + 1) m bx w' := by
  unfold doP at e
  by_cases k0 : x.k = 0
  · rw [if_pos k0] at e
    obtain ⟨⟨rfl, rfl, rfl⟩, rfl⟩ := (by simpa only [Prod.mk.injEq] using e : ((_ ∧ _ ∧ _) ∧ _))
    exact own_open h x (by simpa using k0) rfl
  · rw [if_neg k0] at e
    have b0 : (x.k == 0) = false := by simpa using k0
    by_cases k1 : x.k = 1
    · rw [if_pos k1] at e
      obtain ⟨⟨rfl, rfl, rfl⟩, rfl⟩ := (by simpa only [Prod.mk.injEq] using e : ((_ ∧ _ ∧ _) ∧ _))
      exact own_data h x b0 (by simpa using k1) rfl
    · rw [if_neg k1] at e
      have b1 : (x.k == 1) = false := by simpa using k1
      by_cases k2 : x.k = 2
      · rw [if_pos k2] at e
        obtain ⟨⟨rfl, rfl, rfl⟩, rfl⟩ := (by simpa only [Prod.mk.injEq] using e : ((_ ∧ _ ∧ _) ∧ _))
        exact own_grant h x b0 b1 (by simpa using k2) rfl
      · rw [if_neg k2] at e
        have b2 : (x.k == 2) = false := by simpa using k2
        by_cases k3 : x.k = 3
        · rw [if_pos k3] at e
          obtain ⟨⟨rfl, rfl, rfl⟩, rfl⟩ := (by simpa only [Prod.mk.injEq] using e : ((_ ∧ _ ∧ _) ∧ _))
          exact own_ack h x b0 b1 b2 (by simpa using k3) hk9 rfl
        · rw [if_neg k3] at e
          have b3 : (x.k == 3) = false := by simpa using k3
          by_cases k4 : x.k = 4
          · rw [if_pos k4] at e
            obtain ⟨⟨rfl, rfl, rfl⟩, rfl⟩ := (by simpa only [Prod.mk.injEq] using e : ((_ ∧ _ ∧ _) ∧ _))
            exact own_owe h x b0 b1 b2 b3 (by simpa using k4) rfl
          · rw [if_neg k4] at e
            obtain ⟨⟨rfl, rfl, rfl⟩, rfl⟩ := (by simpa only [Prod.mk.injEq] using e : ((_ ∧ _ ∧ _) ∧ _))
            exact own_close h x b0 b1 b2 b3 (by simpa using k4) rfl

end Go.Proofs.Ytcfcgejeiihgnaa
