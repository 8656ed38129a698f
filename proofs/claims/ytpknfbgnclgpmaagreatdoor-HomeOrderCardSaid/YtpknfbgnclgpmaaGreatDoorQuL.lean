/-
  A law's own queue, beside boxes of its own and blocks that are to stay; the calls upon it, by what they answer.
-/
import Derived.Test.YtpknfbgnclgpmaaGreatDoorQuI
namespace Go.Proofs.YtpknfbgnclgpmaaGreatDoor.Qu
open Go Go.RowKit

/-- Boxes of a law's own, and blocks that are to stay as they are, apart from the blocks F. -/
structure Bx (w0 : World) (F : Nat → Prop) (X : Nat → Obj → Prop) (bx : List (Nat × Obj)) (wr : World) : Prop where
  bl : Below w0.heap.size w0 wr
  at_ : ∀ p ∈ bx, wr.heap[p.1]? = some p.2 ∧ w0.heap.size ≤ p.1 ∧ ¬ F p.1
  nd : (bx.map Prod.fst).Nodup
  ft : ∀ k, F k → w0.heap.size ≤ k ∧ k < wr.heap.size
  kp : ∀ k o, X k o → wr.heap[k]? = some o ∧ ¬ F k ∧ ∀ p ∈ bx, p.1 ≠ k
/-- The boxes turn, and the blocks of F stay. -/
def Mv (w0 : World) (bx : List (Nat × Obj)) (wr : World) (bx' : List (Nat × Obj)) (wr' : World) : Prop := ∀ (F : Nat → Prop) (X : Nat → Obj → Prop), Bx w0 F X bx wr → Bx w0 F X bx' wr' ∧ wr.heap.size ≤ wr'.heap.size ∧ ∀ k, F k → wr'.heap[k]? = wr.heap[k]?
section
variable {w0 wr wr' : World} {bx : List (Nat × Obj)}
theorem mv_step (hb : Below wr.heap.size wr wr') : Mv w0 bx wr bx wr' := fun _ _ h =>
  ⟨⟨bstep h.bl hb, fun p hp => ⟨(hb.block p.1 (lt_of_block (h.at_ p hp).1)).trans (h.at_ p hp).1, (h.at_ p hp).2⟩, h.nd, fun k hk => ⟨(h.ft k hk).1, Nat.lt_of_lt_of_le (h.ft k hk).2 hb.size⟩, fun k o hk => ⟨(hb.block k (lt_of_block (h.kp k o hk).1)).trans (h.kp k o hk).1, (h.kp k o hk).2⟩⟩, hb.size, fun k hk => hb.block k (h.ft k hk).2⟩
theorem mv_drew : Mv w0 bx wr bx wr.drew := mv_step (Below.refl _ _).drew
theorem mv_drewN (n : Nat) : Mv w0 bx wr bx (wr.drewN n) := mv_step (below_drewN (Below.refl _ _) n)
theorem mv_addRow (old cs : Array Value) (T : TypeId) : Mv w0 bx wr ((wr.heap.size, .cells cs T (0, 0)) :: bx) ((wr.alloc (.cells old T)).setRow wr.heap.size cs) := fun F X h => by
  obtain ⟨h1, h2, h3⟩ := mv_step (w0 := w0) (bx := bx) (below_box wr (.cells old T) cs) F X h
  refine ⟨⟨h1.bl, fun p hp => ?_, ?_, h1.ft, fun k o hk => ⟨(h1.kp k o hk).1, (h1.kp k o hk).2.1, fun p hp => ?_⟩⟩, h2, h3⟩
  · rcases List.mem_cons.1 hp with rfl | hp
    · exact ⟨setRow_heap _ _ _ _ _ _ (heap_alloc_new wr _), h.bl.size, fun e => by have := (h.ft _ e).2; simp only at this; omega⟩
    · exact h1.at_ p hp
  · rw [List.map_cons, List.nodup_cons]
    refine ⟨fun hm => ?_, h.nd⟩
    obtain ⟨p, hp, e⟩ := List.mem_map.1 hm
    have := lt_of_block (h.at_ p hp).1
    omega
  · rcases List.mem_cons.1 hp with rfl | hp
    · have := lt_of_block (h.kp k o hk).1
      simp only
      omega
    · exact (h1.kp k o hk).2.2 p hp
theorem mv_add (o : Obj) : Mv w0 bx wr ((wr.heap.size, o) :: bx) (wr.alloc o) := fun F X h => by
  obtain ⟨h1, h2, h3⟩ := mv_step (w0 := w0) (bx := bx) (balloc wr o) F X h
  refine ⟨⟨h1.bl, fun p hp => ?_, ?_, h1.ft, fun k o' hk => ⟨(h1.kp k o' hk).1, (h1.kp k o' hk).2.1, fun p hp => ?_⟩⟩, h2, h3⟩
  · rcases List.mem_cons.1 hp with rfl | hp
    · exact ⟨heap_alloc_new wr _, h.bl.size, fun e => by have := (h.ft _ e).2; simp only at this; omega⟩
    · exact h1.at_ p hp
  · rw [List.map_cons, List.nodup_cons]
    refine ⟨fun hm => ?_, h.nd⟩
    obtain ⟨p, hp, e⟩ := List.mem_map.1 hm
    have := lt_of_block (h.at_ p hp).1
    omega
  · rcases List.mem_cons.1 hp with rfl | hp
    · have := lt_of_block (h.kp k o' hk).1
      simp only
      omega
    · exact (h1.kp k o' hk).2.2 p hp
theorem mv_drop {p : Nat × Obj} : Mv w0 (p :: bx) wr bx wr := fun _ _ h =>
  ⟨⟨h.bl, fun q hq => h.at_ q (List.mem_cons_of_mem _ hq), (List.nodup_cons.1 (by rw [← List.map_cons]; exact h.nd)).2, h.ft, fun k o hk => ⟨(h.kp k o hk).1, (h.kp k o hk).2.1, fun q hq => (h.kp k o hk).2.2 q (List.mem_cons_of_mem _ hq)⟩⟩, Nat.le_refl _, fun _ _ => rfl⟩
theorem mv_perm {bx' : List (Nat × Obj)} (hp : bx.Perm bx') : Mv w0 bx wr bx' wr := fun _ _ h =>
  ⟨⟨h.bl, fun q hq => h.at_ q (hp.mem_iff.2 hq), (hp.map _).nodup_iff.1 h.nd, h.ft, fun k o hk => ⟨(h.kp k o hk).1, (h.kp k o hk).2.1, fun q hq => (h.kp k o hk).2.2 q (hp.mem_iff.2 hq)⟩⟩, Nat.le_refl _, fun _ _ => rfl⟩
theorem mv_turn {n : Nat} {o o' : Obj} (hg : wr.grownBy wr' (some n)) (ho : wr'.heap[n]? = some o') : Mv w0 ((n, o) :: bx) wr ((n, o') :: bx) wr' := fun _ _ h => by
  obtain ⟨g1, g2, g3⟩ := h.at_ (n, o) (List.mem_cons_self ..)
  have hnd := List.nodup_cons.1 (show ((n, o) :: bx).map Prod.fst |>.Nodup from h.nd)
  refine ⟨⟨h.bl.grown hg h.bl.size (fun q hq => by cases hq; exact g2), fun p hp => ?_, h.nd, fun k hk => ⟨(h.ft k hk).1, Nat.lt_of_lt_of_le (h.ft k hk).2 hg.size⟩, fun k o1 hk => ?_⟩, hg.size, fun k hk => hg.block k (h.ft k hk).2 (fun e => by cases e; exact g3 hk)⟩
  · rcases List.mem_cons.1 hp with rfl | hp
    · exact ⟨ho, g2, g3⟩
    · obtain ⟨q1, q2, q3⟩ := h.at_ p (List.mem_cons_of_mem _ hp)
      exact ⟨(hg.block p.1 (lt_of_block q1) (by simp only [ne_eq, Option.some.injEq]; intro e; exact hnd.1 (List.mem_map.2 ⟨p, hp, e⟩))).trans q1, q2, q3⟩
  · obtain ⟨q1, q2, q3⟩ := h.kp k o1 hk
    refine ⟨(hg.block k (lt_of_block q1) (fun e => by cases e; exact q3 _ (List.mem_cons_self ..) rfl)).trans q1, q2, fun p hp => ?_⟩
    rcases List.mem_cons.1 hp with rfl | hp
    · exact q3 (n, o) (List.mem_cons_self ..)
    · exact q3 p (List.mem_cons_of_mem _ hp)
theorem mv_setRow {n : Nat} {cs cs' : Array Value} {T : TypeId} : Mv w0 ((n, .cells cs T (0, 0)) :: bx) wr ((n, .cells cs' T (0, 0)) :: bx) (wr.setRow n cs') := fun F X h => by
  have g1 : wr.heap[n]? = some (.cells cs T (0, 0)) := (h.at_ (n, .cells cs T (0, 0)) (List.mem_cons_self ..)).1
  have hg : wr.grownBy (wr.setRow n cs') (some n) := ⟨rfl, rfl, rfl, by simp, fun q hq hne => setRow_other wr n q cs' (fun e => hne (by rw [e]))⟩
  exact mv_turn hg (setRow_heap _ _ _ _ _ _ g1) F X h
theorem Bx.change {F F' : Nat → Prop} {X : Nat → Obj → Prop} (h : Bx w0 F X bx wr) (hos : wr'.os = wr.os) (htp : wr'.tape = wr.tape) (hou : wr'.output = wr.output) (hs : wr.heap.size ≤ wr'.heap.size) (ho : ∀ k, k < wr.heap.size → ¬ F k → wr'.heap[k]? = wr.heap[k]?) (hF : ∀ k, F' k → F k ∨ wr.heap.size ≤ k) (hlt : ∀ k, F' k → k < wr'.heap.size) : Bx w0 F' X bx wr' := by
  have hbs := h.bl.size
  have hnF : ∀ k, k < wr.heap.size → ¬ F k → ¬ F' k := fun k hk hn e => by
    rcases hF k e with e | e
    · exact hn e
    · omega
  refine ⟨h.bl.trans ⟨hos, htp, hou, hs, fun k hk => ho k (by omega) (fun e => by have := (h.ft k e).1; omega)⟩, fun p hp => ?_, h.nd, fun k hk => ⟨?_, hlt k hk⟩, fun k o hk => ?_⟩
  · obtain ⟨q1, q2, q3⟩ := h.at_ p hp
    have := lt_of_block q1
    exact ⟨(ho _ this q3).trans q1, q2, hnF _ this q3⟩
  · rcases hF k hk with e | e
    · exact (h.ft k e).1
    · omega
  · obtain ⟨q1, q2, q3⟩ := h.kp k o hk
    have := lt_of_block q1
    exact ⟨(ho _ this q2).trans q1, hnF _ this q2, q3⟩
end

/-- A queue's blocks. -/
def Ff (b : Nat) (v : Value) (l0 : List Ep) (k : Nat) : Prop := k = b ∨ v.ownBlock = some k ∨ Rf l0 k
theorem Qu.foot {T e : TypeId} {w : World} {B b : Nat} {room : Int} {l0 : List Ep} {v : Value} (h : Qu T e w B b room l0 v) {k : Nat} (hk : Ff b v l0 k) : B ≤ k ∧ k < w.heap.size := by
  rcases hk with rfl | hk | hk
  · exact ⟨h.bg.big, h.bg.lt⟩
  · exact h.bg.row.lt k hk
  · have := h.at_rf hk
    exact ⟨this.1, this.2.2.2⟩
theorem Qu.keepF {T e : TypeId} {w w' : World} {B b : Nat} {room : Int} {l0 : List Ep} {v : Value} (h : Qu T e w B b room l0 v) (hs : w.heap.size ≤ w'.heap.size) (hk : ∀ k, Ff b v l0 k → w'.heap[k]? = w.heap[k]?) : Qu T e w' B b room l0 v :=
  h.keep hs (hk b (.inl rfl)) (fun k hv => hk k (.inr (.inl hv))) fun x hx hne a ha _ => hk _ (.inr (.inr ⟨x, hx, hne, a, ha, rfl⟩))

/-- A law's own queue. -/
def Own (T e : TypeId) (w0 : World) (b : Nat) (room : Int) (l : List En) (X : Nat → Obj → Prop) (bx : List (Nat × Obj)) (wr : World) : Prop :=
  ∃ l0 v, l0.map Ep.pl = l ∧ Qu T e wr w0.heap.size b room l0 v ∧ Good room l ∧ Bx w0 (Ff b v l0) X bx wr
abbrev OwnP := Own 140 80
abbrev OwnR := Own 59 104
section
variable {T e : TypeId} {w0 wr wr' : World} {b : Nat} {room : Int} {l : List En} {X : Nat → Obj → Prop} {bx bx' : List (Nat × Obj)}
theorem Own.goes (h : Own T e w0 b room l X bx wr) (hm : Mv w0 bx wr bx' wr') : Own T e w0 b room l X bx' wr' := by
  obtain ⟨l0, v, h1, h2, h3, h4⟩ := h
  obtain ⟨k1, k2, k3⟩ := hm _ _ h4
  exact ⟨l0, v, h1, h2.keepF k2 k3, h3, k1⟩
theorem Own.step (h : Own T e w0 b room l X bx wr) (hb : Below wr.heap.size wr wr') : Own T e w0 b room l X bx wr' := h.goes (mv_step hb)
theorem Own.drew (h : Own T e w0 b room l X bx wr) : Own T e w0 b room l X bx wr.drew := h.goes mv_drew
theorem Own.drewN (h : Own T e w0 b room l X bx wr) (n : Nat) : Own T e w0 b room l X bx (wr.drewN n) := h.goes (mv_drewN n)
theorem Own.add (h : Own T e w0 b room l X bx wr) (o : Obj) : Own T e w0 b room l X ((wr.heap.size, o) :: bx) (wr.alloc o) := h.goes (mv_add o)
theorem Own.add2 (h : Own T e w0 b room l X bx wr) (o1 o2 : Obj) : Own T e w0 b room l X ((wr.heap.size + 1, o2) :: (wr.heap.size, o1) :: bx) ((wr.alloc o1).alloc o2) := by
  have := (h.add o1).add o2
  rwa [show (wr.alloc o1).heap.size = wr.heap.size + 1 by simp] at this
theorem Own.addRow (h : Own T e w0 b room l X bx wr) (old cs : Array Value) (t : TypeId) : Own T e w0 b room l X ((wr.heap.size, .cells cs t (0, 0)) :: bx) ((wr.alloc (.cells old t)).setRow wr.heap.size cs) := h.goes (mv_addRow old cs t)
theorem Own.drop {p : Nat × Obj} (h : Own T e w0 b room l X (p :: bx) wr) : Own T e w0 b room l X bx wr := h.goes mv_drop
theorem Own.perm (h : Own T e w0 b room l X bx wr) (hp : bx.Perm bx') : Own T e w0 b room l X bx' wr := h.goes (mv_perm hp)
theorem Own.setRow {n : Nat} {cs cs' : Array Value} {t : TypeId} (h : Own T e w0 b room l X ((n, .cells cs t (0, 0)) :: bx) wr) : Own T e w0 b room l X ((n, .cells cs' t (0, 0)) :: bx) (wr.setRow n cs') := h.goes mv_setRow
theorem Own.bl (h : Own T e w0 b room l X bx wr) : Below w0.heap.size w0 wr := by obtain ⟨l0, v, h1, h2, h3, h4⟩ := h; exact h4.bl
theorem Own.gd (h : Own T e w0 b room l X bx wr) : Good room l := by obtain ⟨l0, v, h1, h2, h3, h4⟩ := h; exact h3
theorem Own.blt (h : Own T e w0 b room l X bx wr) : b < wr.heap.size := by obtain ⟨l0, v, h1, h2, h3, h4⟩ := h; exact h2.bg.lt
theorem Own.box (h : Own T e w0 b room l X bx wr) {n : Nat} {o : Obj} (hm : (n, o) ∈ bx) : wr.heap[n]? = some o := by obtain ⟨l0, v, h1, h2, h3, h4⟩ := h; exact (h4.at_ _ hm).1
theorem Own.cells (h : Own T e w0 b room l X bx wr) {n : Nat} {cs : Array Value} {t : TypeId} (hm : (n, .cells cs t (0, 0)) ∈ bx) : ∀ i, wr.cell? ⟨n, i, none⟩ = cs[i]? := blk_cell (h.box hm)
theorem Own.kept (h : Own T e w0 b room l X bx wr) {k : Nat} {o : Obj} (hk : X k o) : wr.heap[k]? = some o := by obtain ⟨l0, v, h1, h2, h3, h4⟩ := h; exact (h4.kp k o hk).1
/-- Behind a change. -/
theorem Own.gave {l0 : List Ep} {v : Value} {m : List En} (h4 : Bx w0 (Ff b v l0) X bx wr) (hq : QGave T e wr w0.heap.size b room l0 v m wr') (hg : Good room m) : Own T e w0 b room m X bx wr' := by
  obtain ⟨l', v', k1, k2, k3, k4, k5⟩ := hq
  refine ⟨l', v', k1, k2, hg, h4.change k3.os k3.tape k3.output k3.size (fun k hk hn => k3.other k hk (fun e => hn (.inl e)) (fun e => hn (.inr (.inl e)))) (fun k hk => ?_) (fun k hk => (k2.foot hk).2)⟩
  rcases hk with hk | hk | hk
  · exact .inl (.inl hk)
  · exact (k4 k hk).imp (fun e => .inr (.inl e)) id
  · exact (k5 k hk).imp (fun e => .inr (.inr e)) id
end

/-! The calls. -/
section
variable {w0 wr : World} {b : Nat} {room : Int} {l : List En} {X : Nat → Obj → Prop} {bx : List (Nat × Obj)}
theorem pl_few {l0 : List Ep} (h : Good room (l0.map Ep.pl)) : l0.length ≤ 16 ∧ (∀ x ∈ l0, x.l.length ≤ 5000) ∧ ∀ x ∈ l0, x.l ≠ [] → x.st = true := by
  refine ⟨by have := h.short; simpa using this, fun x hx => ?_, fun x hx => ?_⟩
  · have := h.few x.pl (List.mem_map.2 ⟨x, hx, rfl⟩)
    have e : x.pl.l = x.l := rfl
    rw [e] at this
    omega
  · exact h.off x.pl (List.mem_map.2 ⟨x, hx, rfl⟩)
theorem newO (hr : 1 ≤ room) (hr2 : room ≤ 16) (hb : Below w0.heap.size w0 wr) (hx : ∀ k o, X k o → wr.heap[k]? = some o) :
    Calls Tryz.prog 29 #[.int .i64 room] wr fun e w' => ∃ b, e = .returned (.tuple #[.pointer (some ⟨b, 0, none⟩), .int .i64 0]) ∧ OwnP w0 b room [] X [] w' ∧ Below wr.heap.size wr w' :=
  (new_yes room wr hr hr2).mono fun _ _ ⟨he, hw⟩ => by
    subst hw
    have hf : ∀ k, Ff wr.heap.size (.slice none 0 0) [] k → k = wr.heap.size := fun k hk => by
      rcases hk with hk | hk | ⟨x, hx, _⟩
      · exact hk
      · simp [Value.ownBlock] at hk
      · cases hx
    refine ⟨_, he, ⟨[], _, rfl, ⟨Bg.new hb.size, fun x hx => (by cases hx), fun x hx => (by cases hx)⟩, Good.new hr hr2, ⟨bstep hb (balloc _ _), fun p hp => (by cases hp), by simp, fun k hk => ?_, fun k o hk => ?_⟩⟩, balloc _ _⟩
    · rw [hf k hk]
      exact ⟨hb.size, by simp⟩
    · have := lt_of_block (hx k o hk)
      exact ⟨((balloc wr _).block k this).trans (hx k o hk), fun e => by have := hf k e; omega, fun p hp => by cases hp⟩
theorem Own.addQ (h : OwnP w0 b room l X bx wr) (m : Msg) {n : Int} {l' : List En} (e : addP room l m = (n, l')) :
    Calls Tryz.prog 59 #[.pointer (some ⟨b, 0, none⟩), mv m] wr fun e w' => e = .returned (.int .i64 n) ∧ OwnP w0 b room l' X bx w' := by
  obtain ⟨l0, v, rfl, h2, h3, h4⟩ := h
  have hg := h3.add m
  rw [e] at hg
  refine (add_any h2 m h4.bl.size (by have := h3.r1; omega) h3.r2 (by have := h3.len; rwa [List.length_map] at this)).mono fun e' w' ⟨he, hq⟩ => ?_
  rw [e] at he hq
  exact ⟨he, Own.gave h4 hq hg⟩
theorem Own.startQ (h : OwnP w0 b room l X bx wr) (at_ : Int) (p : Option Addr) (c : Nat) (s : List Msg) (hs : MIn wr p s) (hl : s.length ≤ 500) {n : Int} {l' : List En} (e : startP l at_ s = (n, l')) :
    Calls Tryz.prog 100 #[.pointer (some ⟨b, 0, none⟩), .int .i64 at_, .slice p s.length c] wr fun e w' => e = .returned (.int .i64 n) ∧ OwnP w0 b room l' X bx w' := by
  obtain ⟨l0, v, rfl, h2, h3, h4⟩ := h
  have hg := h3.start at_ hl
  rw [e] at hg
  have := (pl_few h3).1
  refine (start_any h2 h4.bl.size at_ (by omega) p c s hs (by omega)).mono fun e' w' ⟨he, hq⟩ => ?_
  rw [e] at he hq
  exact ⟨he, Own.gave h4 hq hg⟩
theorem Own.sentQ (h : OwnP w0 b room l X bx wr) (at_ : Int) {n : Int} {l' : List En} (e : sentP l at_ = (n, l')) :
    Calls Tryz.prog 63 #[.pointer (some ⟨b, 0, none⟩), .int .i64 at_] wr fun e w' => e = .returned (.int .i64 n) ∧ OwnP w0 b room l' X bx w' := by
  obtain ⟨l0, v, rfl, h2, h3, h4⟩ := h
  have hg := h3.sent at_
  rw [e] at hg
  obtain ⟨f1, f2, f3⟩ := pl_few h3
  refine (sent_any h2 at_ (by omega) f2 f3).mono fun e' w' ⟨he, hq⟩ => ?_
  rw [e] at he hq
  exact ⟨he, Own.gave h4 hq hg⟩
theorem Own.finQ (h : OwnP w0 b room l X bx wr) (ln fr : Int) {n : Int} {l' : List En} (e : finP l ln fr = (n, l')) :
    Calls Tryz.prog 64 #[.pointer (some ⟨b, 0, none⟩), .int .i64 ln, .int .i64 fr] wr fun e w' => e = .returned (.int .i64 n) ∧ OwnP w0 b room l' X bx w' := by
  obtain ⟨l0, v, rfl, h2, h3, h4⟩ := h
  have hg := h3.fin ln fr
  rw [e] at hg
  obtain ⟨f1, f2, f3⟩ := pl_few h3
  refine (fin_any h2 ln fr (by omega)).mono fun e' w' ⟨he, hq⟩ => ?_
  rw [e] at he hq
  exact ⟨he, Own.gave h4 hq hg⟩
theorem Own.nextQ (h : OwnP w0 b room l X bx wr) (at_ : Int) {m : Msg} {q : Bool} (e : nextP l at_ = (m, q)) :
    Calls Tryz.prog 62 #[.pointer (some ⟨b, 0, none⟩), .int .i64 at_] wr fun e w' => e = .returned (.tuple #[mv m, .bool q]) ∧ Below wr.heap.size wr w' := by
  obtain ⟨l0, v, rfl, h2, h3, h4⟩ := h
  exact next_any h2 at_ (pl_few h3).2.1 e
theorem Own.readyQ (h : OwnP w0 b room l X bx wr) (at_ : Int) {q : Bool} (e : rdy l at_ = q) :
    Calls Tryz.prog 60 #[.pointer (some ⟨b, 0, none⟩), .int .i64 at_] wr fun e w' => e = .returned (.bool q) ∧ Below wr.heap.size wr w' := by
  obtain ⟨l0, v, rfl, h2, h3, h4⟩ := h
  have := (pl_few h3).1
  subst e
  exact ready_any h2.bg at_ (by omega)
theorem Own.leftQ (h : OwnP w0 b room l X bx wr) :
    Calls Tryz.prog 94 #[.pointer (some ⟨b, 0, none⟩)] wr fun e w' => e = .returned (.int .i64 (room - l.length)) ∧ ∃ n, w' = wr.drewN n := by
  obtain ⟨l0, v, rfl, h2, h3, h4⟩ := h
  have := (pl_few h3).1
  rw [List.length_map]
  exact left_any h2.bg (by have := h3.r1; omega) h3.r2 (by omega)
/-- What a list of entries gives whose rows are its own, in plain words. -/
def ListG (l : List En) (w : World) (e : Ending) (w' : World) : Prop := ∃ p c M, e = .returned (.slice p M.length c) ∧ M.map Ep.pl = l ∧ EIn w' p M ∧ Frsh w.heap.size p M ∧ Below w.heap.size w w'
theorem Own.listQ (h : OwnP w0 b room l X bx wr) :
    Calls Tryz.prog 47 #[.pointer (some ⟨b, 0, none⟩)] wr (ListG l wr) := by
  obtain ⟨l0, v, rfl, h2, h3, h4⟩ := h
  obtain ⟨f1, f2, f3⟩ := pl_few h3
  exact list_any h2 (by omega) f2
/-- What Get gives. -/
def GetG (x : En) (q : Bool) (w : World) (e : Ending) (w' : World) : Prop := ∃ y : Ep, e = .returned (.tuple #[.agg (ecells y), .bool q]) ∧ y.pl = x ∧ MIn w' y.p y.l ∧ Below w.heap.size w w'
theorem Own.getQ (h : OwnP w0 b room l X bx wr) (at_ : Int) {x : En} {q : Bool} (e : getP l at_ = (x, q)) :
    Calls Tryz.prog 98 #[.pointer (some ⟨b, 0, none⟩), .int .i64 at_] wr (GetG x q wr) := by
  obtain ⟨l0, v, rfl, h2, h3, h4⟩ := h
  rcases at_cases l0 at_ with ho | ⟨i, y, rfl, hy⟩
  · rw [getP_out (by rwa [pl_len])] at e
    cases e
    exact (get_out h2.bg at_ ho).mono fun e' w' ⟨he, hb⟩ => ⟨e0, he, rfl, MIn.nil _ _, hb⟩
  · rw [getP_at (pl_at hy)] at e
    cases e
    exact (get_at h2 i y hy ((pl_few h3).2.1 y (List.mem_of_getElem? hy))).mono fun e' w' ⟨z, he, hz, hm, _, hb⟩ => ⟨z, he, hz, hm, hb⟩
end

end Go.Proofs.YtpknfbgnclgpmaaGreatDoor.Qu
