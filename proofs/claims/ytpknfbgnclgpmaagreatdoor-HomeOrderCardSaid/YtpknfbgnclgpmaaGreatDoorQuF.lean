/-
  What a change leaves of a queue; Add, Start.
-/
import Derived.Test.YtpknfbgnclgpmaaGreatDoorLayQu
namespace Go.Proofs.YtpknfbgnclgpmaaGreatDoor.Qu
open Go Go.RowKit

/-- Where messages of a list of entries lie. -/
def Rf (l : List Ep) (k : Nat) : Prop := ∃ x ∈ l, x.l ≠ [] ∧ ∃ a, x.p = some a ∧ a.block = k
/-- What is behind a change of a queue. -/
def QGave (T e : TypeId) (w : World) (B b : Nat) (room : Int) (l : List Ep) (v : Value) (m : List En) (w' : World) : Prop :=
  ∃ l' v', l'.map Ep.pl = m ∧ Qu T e w' B b room l' v' ∧ Turn b v w w' ∧ Fresh w v v' ∧ ∀ k, Rf l' k → Rf l k ∨ w.heap.size ≤ k
section
variable {T e : TypeId} {w w' : World} {B b : Nat} {room : Int} {l l' : List Ep} {v : Value}
theorem Qu.at_rf (h : Qu T e w B b room l v) {k : Nat} (hk : Rf l k) : B ≤ k ∧ k ≠ b ∧ v.ownBlock ≠ some k ∧ k < w.heap.size := by
  obtain ⟨x, hx, hne, a, ha, rfl⟩ := hk
  obtain ⟨h1, h2⟩ := h.sd x hx
  obtain ⟨q1, q2, q3⟩ := h2 hne a ha
  exact ⟨q1, q2, q3, h1.lt hne a ha⟩
theorem Qu.gave_same (h : Qu T e w B b room l v) (hb : Below w.heap.size w w') : QGave T e w B b room l v (l.map Ep.pl) w' :=
  ⟨l, v, rfl, h.below hb, .of_below hb, Fresh.refl _ _, fun _ h => .inl h⟩
theorem MIn.turn {p : Option Addr} {L : List Msg} (hm : MIn w p L) (h : Qu T e w B b room l v) (ht : Turn b v w w') (hr : ∀ a, p = some a → Rf l a.block) : MIn w' p L :=
  hm.keep ht.size fun _ a ha hlt => by
    obtain ⟨_, q2, q3, _⟩ := h.at_rf (hr a ha)
    exact ht.other _ hlt q2 q3
theorem Qu.gaveOld (h : Qu T e w B b room l v) (hp : PutGave T e 17 ec w B b room l' v w') (hc : ∀ x ∈ l', x.l.length ≤ x.c) (hs : ∀ x ∈ l', x.l ≠ [] → MIn w x.p x.l ∧ ∀ a, x.p = some a → Rf l a.block) : QGave T e w B b room l v (l'.map Ep.pl) w' := by
  obtain ⟨v', hb, ht, hf⟩ := hp
  refine ⟨l', v', rfl, ⟨hb, fun x hx => ?_, hc⟩, ht, hf, fun k ⟨x, hx, hne, a, ha, hk⟩ => .inl (hk ▸ (hs x hx hne).2 a ha)⟩
  by_cases hne : x.l = []
  · exact ⟨by rw [hne]; exact MIn.nil _ _, fun e => absurd hne e⟩
  · obtain ⟨h1, h2⟩ := hs x hx hne
    refine ⟨h1.turn h ht h2, fun _ a ha => ?_⟩
    obtain ⟨q1, q2, q3, q4⟩ := h.at_rf (h2 a ha)
    refine ⟨q1, q2, fun e => ?_⟩
    rcases hf _ e with e1 | e1
    · exact q3 e1
    · omega
theorem Qu.gaveNew (h : Qu T e w B b room l v) (hB : B ≤ w.heap.size) (hb : Bg T e 17 ec w' B b room l' v) (ht : Turn b v w w') (hc : ∀ x ∈ l', x.l.length ≤ x.c) (hs : ∀ x ∈ l', x.l ≠ [] → (MIn w x.p x.l ∧ ∀ a, x.p = some a → Rf l a.block) ∨ (MIn w' x.p x.l ∧ ∀ a, x.p = some a → w.heap.size ≤ a.block)) : QGave T e w B b room l v (l'.map Ep.pl) w' := by
  have hbl := h.bg.lt
  refine ⟨l', v, rfl, ⟨hb, fun x hx => ?_, hc⟩, ht, Fresh.refl _ _, fun k ⟨x, hx, hne, a, ha, hk⟩ => ?_⟩
  · by_cases hne : x.l = []
    · exact ⟨by rw [hne]; exact MIn.nil _ _, fun e => absurd hne e⟩
    · rcases hs x hx hne with ⟨h1, h2⟩ | ⟨h1, h2⟩
      · refine ⟨h1.turn h ht h2, fun _ a ha => ?_⟩
        obtain ⟨q1, q2, q3, q4⟩ := h.at_rf (h2 a ha)
        exact ⟨q1, q2, q3⟩
      · refine ⟨h1, fun _ a ha => ?_⟩
        have := h2 a ha
        exact ⟨by omega, by omega, fun e => by have := (h.bg.row.lt _ e).2; omega⟩
  · rcases hs x hx hne with ⟨h1, h2⟩ | ⟨h1, h2⟩
    · exact .inl (hk ▸ h2 a ha)
    · exact .inr (hk ▸ h2 a ha)
theorem Qu.of_mem (h : Qu T e w B b room l v) {x : Ep} (hx : x ∈ l) (hne : x.l ≠ []) : MIn w x.p x.l ∧ ∀ a, x.p = some a → Rf l a.block := ⟨(h.sd x hx).1, fun a ha => ⟨x, hx, hne, a, ha, rfl⟩⟩
end

/-- What a call gives that answers with a number. -/
def GaveN (w : World) (B b : Nat) (room : Int) (l : List Ep) (v : Value) (r : Int × List En) (e : Ending) (w' : World) : Prop := e = .returned (.int .i64 r.1) ∧ QGave 140 80 w B b room l v r.2 w'

theorem rq_no {k : Int} (h : rq k = false) : (k != 1) = true ∧ (k != 2) = true ∧ (k != 3) = true := by
  unfold rq at h
  simpa [and_assoc] using h
theorem rq_yes {k : Int} (h : rq k = true) : (k != 1) = false ∨ ((k != 1) = true ∧ (k != 2) = false) ∨ ((k != 1) = true ∧ (k != 2) = true ∧ (k != 3) = false) := by
  by_cases h1 : k = 1
  · left; simp [h1]
  · by_cases h2 : k = 2
    · right; left; simp [h2]
    · right; right
      unfold rq at h
      refine ⟨by simpa using h1, by simpa using h2, ?_⟩
      simpa [h1, h2] using h

set_option maxRecDepth 100000 in
set_option maxHeartbeats 2000000 in
theorem add_no {w : World} {B b : Nat} {room : Int} {l : List Ep} {v : Value} (h : BgP w B b room l v) (m : Msg) (h1 : 0 ≤ room) (h2 : room ≤ 16) {n : Int} (hn : n = 1 ∧ rq m.kd = false ∨ n = 4 ∧ rq m.kd = true ∧ (l.length : Int) = room) :
    Calls Tryz.prog 59 #[.pointer (some ⟨b, 0, none⟩), mv m] w fun e w' => e = .returned (.int .i64 n) ∧ Below w.heap.size w w' := by
  have hb := balloc w (.cells (mcells m) 38)
  rcases hn with ⟨rfl, hk⟩ | ⟨rfl, hk, hf⟩
  · obtain ⟨k1, k2, k3⟩ := rq_no hk
    clear h hk
    go_enter Tryz.func59, Tryz.ntmps59
    go_wp2
    go_ret
    exact ⟨rfl, hb⟩
  · have hz : (room - (l.length : Int) == 0) = true := by simp; omega
    have HL := Lib.hid (left_any (h.below hb) h1 h2 (by omega))
    clear h hf
    rcases rq_yes hk with k1 | ⟨k1, k2⟩ | ⟨k1, k2, k3⟩
    all_goals
      clear hk
      go_enter Tryz.func59, Tryz.ntmps59
      go_wp2_with (go_at_call 94; refine HL.out.mono ?_; rintro e w' ⟨rfl, n, rfl⟩)
      go_ret
      exact ⟨rfl, below_drewN hb _⟩
set_option maxRecDepth 100000 in
set_option maxHeartbeats 4000000 in
theorem add_yes {w : World} {B b : Nat} {room : Int} {l : List Ep} {v : Value} (h : BgP w B b room l v) (m : Msg) (hB : B ≤ w.heap.size) (h1 : 0 ≤ room) (h2 : room ≤ 16) (hl : (l.length : Int) < room) (hk : rq m.kd = true) :
    Calls Tryz.prog 59 #[.pointer (some ⟨b, 0, none⟩), mv m] w fun e w' => e = .returned (.int .i64 0) ∧ PutGave 140 80 17 ec w B b room (l ++ [⟨m, false, [], none, 0⟩]) v w' := by
  obtain ⟨i0, hi, hz0, hz1, hz2⟩ := info_parts A57
  have hz : (room - (l.length : Int) == 0) = false := by simp; omega
  have hal := balloc w (.cells (mcells m) 38)
  have HL := Lib.hid (left_any (h.below hal) h1 h2 (by omega))
  have hlt := h.lt
  have H := Lib.hid h
  have hll : l.length ≤ 16 := by omega
  have HAL := Lib.hid hal
  obtain ⟨x, hx⟩ : ∃ x : Ep, x = ⟨m, false, [], none, 0⟩ := ⟨_, rfl⟩
  have hxc : ec x = (ecells ⟨m, false, [], none, 0⟩).toList := by rw [hx]; rfl
  rw [← hx]
  have HX := Lib.hid hxc
  clear h hl hal hx hxc
  rcases rq_yes hk with k1 | ⟨k1, k2⟩ | ⟨k1, k2, k3⟩
  all_goals
    clear hk
    go_enter Tryz.func59, Tryz.ntmps59
    go_wp2_with (go_at_call 94; refine HL.out.mono ?_; rintro e w' ⟨rfl, n, rfl⟩)
    obtain ⟨w1, hw1⟩ : ∃ w1, w1 = (w.alloc (.cells (mcells m) 38)).drewN n := ⟨_, rfl⟩
    have hb1 : Below w.heap.size w w1 := by rw [hw1]; exact below_drewN HAL.out n
    have hx1 : w1.heap[w.heap.size]? = some (.cells (mcells m) 38 (0, 0)) := by rw [hw1]; exact heap_alloc_new w _
    rw [← hw1]
    clear hw1 HL
    have H1 := Lib.hid (H.out.below hb1)
    have c1 := blk_cell H1.out.blk 1
    have f1 := blk_free H1.out.blk 1
    have hlt1 := H1.out.lt
    have cx := fun o => blk_cell hx1 o
    have hsz := hb1.size
    have HB1 := Lib.hid hb1
    simp at c1
    clear hb1 hx1
    go_region_law
      ((refine step_append_lies _ (by rfl) _ _ _ (by rfl) B 80 i0 _ 17 152 Tryz.underlying56 hi hz0 hz1 hz2 rfl (by omega) v l.length (cellsOf ec l) (by rfl) ((H1.out.row.alloc _).drew)
          ⟨w1.heap.size, 0, none⟩ 1 1 (ec x) (by rfl) (by rw [HX.out]; rfl) (by rw [HX.out]; exact World.news_of_block (cs := ecells ⟨m, false, [], none, 0⟩) (t := 80) (fr := (0, 0)) (heap_alloc_new w1 _)) (ec_one x)
          (by omega) (by unfold maxLen; omega) (by omega) (by simp; omega) (w1.heap.size + 1) (by simp) ?_; intro gg cap w2 hown hgrow hat hlt2; have hb2 := put_blk H1.out (((Below.refl _ w1).alloc (Nat.le_refl _) _).drew) hgrow; have c2 := blk_cell hb2 1; have f2 := blk_free hb2 1; simp at c2; clear hb2))
  all_goals
    have R := put_gave H.out ((HB1.out.alloc hsz (.cells (ecells ⟨m, false, [], none, 0⟩) 80)).drew) hown hgrow (hat.imp id fun h => by omega)
    clear hown hgrow hat hlt2
    go_wp2
    go_ret
    exact ⟨rfl, R⟩

end Go.Proofs.YtpknfbgnclgpmaaGreatDoor.Qu
