/-
  The document's calls upon a law's own queue; two queues beside each other.
-/
import Derived.Test.YtnpbbkiojoafbaaQuZ
import Derived.Test.YtnpbbkiojoafbaaQuV
import Derived.Test.YtnpbbkiojoafbaaQuP
namespace Go.Proofs.Ytnpbbkiojoafbaa
open Go Go.RowKit

section
variable {w0 wr : World} {b : Nat} {room : Int} {l : List En} {X : Nat → Obj → Prop} {bx : List (Nat × Obj)}
theorem Own.addR (h : OwnR w0 b room l X bx wr) (m : Msg) {n : Int} {l' : List En} (e : addP room l m = (n, l')) :
    Calls Try.prog 11 #[.pointer (some ⟨b, 0, none⟩), mv m] wr fun e w' => e = .returned (.int .i64 n) ∧ OwnR w0 b room l' X bx w' := by
  obtain ⟨l0, v, rfl, h2, h3, h4⟩ := h
  have hg := h3.add m
  rw [e] at hg
  refine (refAdd_any h2 m h4.bl.size h3.r2 (by have := h3.len; rwa [List.length_map] at this)).mono fun e' w' ⟨he, hq⟩ => ?_
  rw [e] at he hq
  exact ⟨he, Own.gave h4 hq hg⟩
theorem Own.startR (h : OwnR w0 b room l X bx wr) (at_ : Int) (p : Option Addr) (c : Nat) (s : List Msg) (hs : MIn wr p s) (hl : s.length ≤ 500) {n : Int} {l' : List En} (e : startP l at_ s = (n, l')) :
    Calls Try.prog 12 #[.pointer (some ⟨b, 0, none⟩), .int .i64 at_, .slice p s.length c] wr fun e w' => e = .returned (.int .i64 n) ∧ OwnR w0 b room l' X bx w' := by
  obtain ⟨l0, v, rfl, h2, h3, h4⟩ := h
  have hg := h3.start at_ hl
  rw [e] at hg
  have := (pl_few h3).1
  refine (refStart_any h2 h4.bl.size at_ (by omega) p c s hs (by omega)).mono fun e' w' ⟨he, hq⟩ => ?_
  rw [e] at he hq
  exact ⟨he, Own.gave h4 hq hg⟩
theorem Own.sentR (h : OwnR w0 b room l X bx wr) (at_ : Int) {n : Int} {l' : List En} (e : sentP l at_ = (n, l')) :
    Calls Try.prog 14 #[.pointer (some ⟨b, 0, none⟩), .int .i64 at_] wr fun e w' => e = .returned (.int .i64 n) ∧ OwnR w0 b room l' X bx w' := by
  obtain ⟨l0, v, rfl, h2, h3, h4⟩ := h
  have hg := h3.sent at_
  rw [e] at hg
  obtain ⟨f1, f2, f3⟩ := pl_few h3
  refine (refSent_any h2 h4.bl.size at_ (by omega) f2).mono fun e' w' ⟨he, hq⟩ => ?_
  rw [e] at he hq
  exact ⟨he, Own.gave h4 hq hg⟩
theorem Own.finR (h : OwnR w0 b room l X bx wr) (ln fr : Int) {n : Int} {l' : List En} (e : finP l ln fr = (n, l')) :
    Calls Try.prog 15 #[.pointer (some ⟨b, 0, none⟩), .int .i64 ln, .int .i64 fr] wr fun e w' => e = .returned (.int .i64 n) ∧ OwnR w0 b room l' X bx w' := by
  obtain ⟨l0, v, rfl, h2, h3, h4⟩ := h
  have hg := h3.fin ln fr
  rw [e] at hg
  obtain ⟨f1, f2, f3⟩ := pl_few h3
  refine (refFin_any h2 h4.bl.size ln fr (by omega)).mono fun e' w' ⟨he, hq⟩ => ?_
  rw [e] at he hq
  exact ⟨he, Own.gave h4 hq hg⟩
theorem Own.nextR (h : OwnR w0 b room l X bx wr) (at_ : Int) {m : Msg} {q : Bool} (e : nextP l at_ = (m, q)) :
    Calls Try.prog 13 #[.pointer (some ⟨b, 0, none⟩), .int .i64 at_] wr fun e w' => e = .returned (.tuple #[mv m, .bool q]) ∧ Below wr.heap.size wr w' := by
  obtain ⟨l0, v, rfl, h2, h3, h4⟩ := h
  exact refNext_any h2 at_ (pl_few h3).2.1 e
theorem Own.readyR (h : OwnR w0 b room l X bx wr) (at_ : Int) {q : Bool} (e : rdy l at_ = q) :
    Calls Try.prog 21 #[.pointer (some ⟨b, 0, none⟩), .int .i64 at_] wr fun e w' => e = .returned (.bool q) ∧ Below wr.heap.size wr w' := by
  obtain ⟨l0, v, rfl, h2, h3, h4⟩ := h
  have := (pl_few h3).1
  subst e
  exact refReady_any h2.bg at_ (by omega)
theorem Own.hasR (h : OwnR w0 b room l X bx wr) (at_ : Int) {q : Bool} (e : hasP l at_ = q) :
    Calls Try.prog 23 #[.pointer (some ⟨b, 0, none⟩), .int .i64 at_] wr fun e w' => e = .returned (.bool q) ∧ Below wr.heap.size wr w' := by
  obtain ⟨l0, v, rfl, h2, h3, h4⟩ := h
  subst e
  exact (refHas_any h2.bg at_).mono fun e w' ⟨he, hw⟩ => ⟨he, by subst hw; exact Below.refl _ _⟩
/-- Where the document's entries lie. -/
theorem Own.rowR (h : OwnR w0 b room l X bx wr) : ∃ q cap M, M.map Ep.pl = l ∧ M.length ≤ 16 ∧ (∀ x ∈ M, x.l.length ≤ 5000) ∧ ∀ W, Below wr.heap.size wr W → W.cell? ⟨b, 1, none⟩ = some (.slice q M.length cap) ∧ EIn W q M := by
  obtain ⟨l0, v, rfl, h2, h3, h4⟩ := h
  obtain ⟨f1, f2, f3⟩ := pl_few h3
  obtain ⟨q, cap, rfl, hin⟩ := h2.bg.ins
  refine ⟨q, cap, l0, rfl, f1, f2, fun W hb => ?_⟩
  have c1 := blk_cell (h2.bg.below hb).blk 1
  simp at c1
  refine ⟨c1, fun i x hx => ?_, fun x hx => (h2.sd x hx).1.step hb⟩
  obtain ⟨g, rfl, hg, hr⟩ := (hin.step hb) i x hx
  exact ⟨g, 0, rfl, hg, by rw [Nat.zero_add]; exact hr⟩
end

theorem MIn.keepB {w w' : World} {p : Option Addr} {l : List Msg} (h : MIn w p l) (hk : l ≠ [] → ∀ a, p = some a → w'.heap[a.block]? = w.heap[a.block]?) : MIn w' p l := fun i x hx => by
  obtain ⟨g, o, e, hg, hr⟩ := h i x hx
  subst e
  have e2 := hk (fun e => by rw [e] at hx; cases hx) ⟨g, o, none⟩ rfl
  refine ⟨g, o, rfl, ?_, fun j v hv => (World.cell?_of_block (a := ⟨g, o + i * 15 + j, none⟩) e2).trans (hr j v hv)⟩
  exact lt_of_block (e2.trans (Array.getElem?_eq_getElem hg))
theorem Qu.keepB {T e : TypeId} {w w' : World} {B b : Nat} {room : Int} {l0 : List Ep} {v : Value} (h : Qu T e w B b room l0 v) (hk : ∀ k, Ff b v l0 k → w'.heap[k]? = w.heap[k]?) : Qu T e w' B b room l0 v :=
  ⟨h.bg.keep (hk b (.inl rfl)) (fun k hv => hk k (.inr (.inl hv))), fun x hx => ⟨(h.sd x hx).1.keepB fun hne a ha => hk _ (.inr (.inr ⟨x, hx, hne, a, ha, rfl⟩)), (h.sd x hx).2⟩, h.cp⟩

/-- A queue and the document's, beside each other and beside boxes of the law's own. -/
def Two (w0 : World) (b c : Nat) (room : Int) (l m : List En) (bx : List (Nat × Obj)) (wr : World) : Prop :=
  ∃ l0 v l1 u, l0.map Ep.pl = l ∧ QuP wr w0.heap.size b room l0 v ∧ Good room l ∧ l1.map Ep.pl = m ∧ QuR wr w0.heap.size c room l1 u ∧ Good room m ∧ (∀ k, Ff b v l0 k → ¬ Ff c u l1 k) ∧ Bx w0 (fun k => Ff b v l0 k ∨ Ff c u l1 k) noX bx wr
section
variable {w0 wr wr' : World} {b c : Nat} {room : Int} {l m : List En} {bx bx' : List (Nat × Obj)}
theorem Two.left (h : Two w0 b c room l m bx wr) : ∃ X, OwnP w0 b room l X bx wr ∧ ∀ l' bx' wr', OwnP w0 b room l' X bx' wr' → Two w0 b c room l' m bx' wr' := by
  obtain ⟨l0, v, l1, u, e0, q0, g0, e1, q1, g1, dj, h⟩ := h
  refine ⟨fun k o => Ff c u l1 k ∧ wr.heap[k]? = some o, ⟨l0, v, e0, q0, g0, ⟨h.bl, fun p hp => ⟨(h.at_ p hp).1, (h.at_ p hp).2.1, fun e => (h.at_ p hp).2.2 (.inl e)⟩, h.nd, fun k hk => h.ft k (.inl hk), fun k o ⟨hk, ho⟩ => ⟨ho, fun e => dj k e hk, fun p hp e => (h.at_ p hp).2.2 (.inr (e ▸ hk))⟩⟩⟩, fun l' bx' wr' ⟨l0', v', e0', q0', g0', h2⟩ => ?_⟩
  have hk : ∀ k, Ff c u l1 k → wr'.heap[k]? = wr.heap[k]? ∧ k < wr'.heap.size ∧ ¬ Ff b v' l0' k ∧ ∀ p ∈ bx', p.1 ≠ k := fun k hk => by
    have hlt := (q1.foot hk).2
    have ho := Array.getElem?_eq_getElem hlt
    obtain ⟨k1, k2, k3⟩ := h2.kp k _ ⟨hk, ho⟩
    exact ⟨k1.trans ho.symm, lt_of_block k1, k2, k3⟩
  exact ⟨l0', v', l1, u, e0', q0', g0', e1, q1.keepB fun k h => (hk k h).1, g1, fun k h1 h2 => (hk k h2).2.2.1 h1, ⟨h2.bl, fun p hp => ⟨(h2.at_ p hp).1, (h2.at_ p hp).2.1, fun e => e.elim (h2.at_ p hp).2.2 fun e => (hk _ e).2.2.2 p hp rfl⟩, h2.nd, fun k h => h.elim (h2.ft k) fun e => ⟨(q1.foot e).1, (hk k e).2.1⟩, fun k o e => e.elim⟩⟩
theorem Two.right (h : Two w0 b c room l m bx wr) : ∃ X, OwnR w0 c room m X bx wr ∧ ∀ m' bx' wr', OwnR w0 c room m' X bx' wr' → Two w0 b c room l m' bx' wr' := by
  obtain ⟨l0, v, l1, u, e0, q0, g0, e1, q1, g1, dj, h⟩ := h
  refine ⟨fun k o => Ff b v l0 k ∧ wr.heap[k]? = some o, ⟨l1, u, e1, q1, g1, ⟨h.bl, fun p hp => ⟨(h.at_ p hp).1, (h.at_ p hp).2.1, fun e => (h.at_ p hp).2.2 (.inr e)⟩, h.nd, fun k hk => h.ft k (.inr hk), fun k o ⟨hk, ho⟩ => ⟨ho, fun e => dj k hk e, fun p hp e => (h.at_ p hp).2.2 (.inl (e ▸ hk))⟩⟩⟩, fun m' bx' wr' ⟨l1', u', e1', q1', g1', h2⟩ => ?_⟩
  have hk : ∀ k, Ff b v l0 k → wr'.heap[k]? = wr.heap[k]? ∧ k < wr'.heap.size ∧ ¬ Ff c u' l1' k ∧ ∀ p ∈ bx', p.1 ≠ k := fun k hk => by
    have hlt := (q0.foot hk).2
    have ho := Array.getElem?_eq_getElem hlt
    obtain ⟨k1, k2, k3⟩ := h2.kp k _ ⟨hk, ho⟩
    exact ⟨k1.trans ho.symm, lt_of_block k1, k2, k3⟩
  exact ⟨l0, v, l1', u', e0, q0.keepB fun k h => (hk k h).1, g0, e1', q1', g1', fun k h1 h2 => (hk k h1).2.2.1 h2, ⟨h2.bl, fun p hp => ⟨(h2.at_ p hp).1, (h2.at_ p hp).2.1, fun e => e.elim (fun e => (hk _ e).2.2.2 p hp rfl) (h2.at_ p hp).2.2⟩, h2.nd, fun k h => h.elim (fun e => ⟨(q0.foot e).1, (hk k e).2.1⟩) (h2.ft k), fun k o e => e.elim⟩⟩
theorem Two.goes (h : Two w0 b c room l m bx wr) (hm : Mv w0 bx wr bx' wr') : Two w0 b c room l m bx' wr' := by
  obtain ⟨X, h1, h2⟩ := h.left
  exact h2 _ _ _ (h1.goes hm)
theorem Two.step (h : Two w0 b c room l m bx wr) (hb : Below wr.heap.size wr wr') : Two w0 b c room l m bx wr' := h.goes (mv_step hb)
theorem Two.addRow (h : Two w0 b c room l m bx wr) (old cs : Array Value) (t : TypeId) : Two w0 b c room l m ((wr.heap.size, .cells cs t (0, 0)) :: bx) ((wr.alloc (.cells old t)).setRow wr.heap.size cs) := h.goes (mv_addRow old cs t)
theorem Two.drop {p : Nat × Obj} (h : Two w0 b c room l m (p :: bx) wr) : Two w0 b c room l m bx wr := h.goes mv_drop
theorem Two.setRow {n : Nat} {cs cs' : Array Value} {t : TypeId} (h : Two w0 b c room l m ((n, .cells cs t (0, 0)) :: bx) wr) : Two w0 b c room l m ((n, .cells cs' t (0, 0)) :: bx) (wr.setRow n cs') := h.goes mv_setRow
theorem Two.bl (h : Two w0 b c room l m bx wr) : Below w0.heap.size w0 wr := by obtain ⟨X, h1, h2⟩ := h.left; exact h1.bl
theorem Two.gd (h : Two w0 b c room l m bx wr) : Good room l := by obtain ⟨X, h1, h2⟩ := h.left; exact h1.gd
theorem Two.box (h : Two w0 b c room l m bx wr) {n : Nat} {o : Obj} (hm : (n, o) ∈ bx) : wr.heap[n]? = some o := by obtain ⟨X, h1, h2⟩ := h.left; exact h1.box hm
theorem Two.cells (h : Two w0 b c room l m bx wr) {n : Nat} {cs : Array Value} {t : TypeId} (hm : (n, .cells cs t (0, 0)) ∈ bx) : ∀ i, wr.cell? ⟨n, i, none⟩ = cs[i]? := blk_cell (h.box hm)
/-- Both anew. -/
theorem OwnP.two (h : OwnP w0 b room l noX [] wr) : Two w0 b wr.heap.size room l [] [] (wr.alloc (.cells #[.int .i64 room, .slice none 0 0] 53)) := by
  obtain ⟨l0, v, e0, q0, g0, h⟩ := h
  have hb := balloc wr (.cells #[.int .i64 room, .slice none 0 0] 53)
  have hf : ∀ k, Ff wr.heap.size (.slice none 0 0) [] k → k = wr.heap.size := fun k hk => by
    rcases hk with hk | hk | ⟨x, hx, _⟩
    · exact hk
    · simp [Value.ownBlock] at hk
    · cases hx
  refine ⟨l0, v, [], _, e0, q0.below hb, g0, rfl, ⟨Bg.new h.bl.size, fun x hx => (by cases hx), fun x hx => (by cases hx)⟩, Good.new g0.r1 g0.r2, fun k h1 h2 => ?_, ⟨bstep h.bl hb, fun p hp => (by cases hp), by simp, fun k hk => ?_, fun k o e => e.elim⟩⟩
  · have := hf k h2
    have := (q0.foot h1).2
    omega
  · rcases hk with hk | hk
    · have := q0.foot hk
      exact ⟨this.1, Nat.lt_of_lt_of_le this.2 hb.size⟩
    · rw [hf k hk]
      exact ⟨h.bl.size, by simp⟩
end

end Go.Proofs.Ytnpbbkiojoafbaa
