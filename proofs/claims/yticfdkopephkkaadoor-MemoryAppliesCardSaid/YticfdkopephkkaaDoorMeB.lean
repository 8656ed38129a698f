/-
  What Do of a memory does.
-/
import Derived.Test.YticfdkopephkkaaDoorMeA
import Derived.Deep.RegionHeld3
namespace Go.Proofs.YticfdkopephkkaaDoor
open Go Go.RowKit

theorem GaveM.same {w w' : World} {b g : Nat} {c : Cfg} {L : List Int} (h : Mm w b g c L) (r : Value) (hb : Below w.heap.size w w') : GaveM w b g c r L (.returned r) w' := ⟨rfl, h.below hb, .of_below hb⟩
/-- A word is stored. -/
theorem gave_word {w w1 w2 : World} {b g : Nat} {c : Cfg} {L : List Int} (h : Mm w b g c L) (r : Value) (A : Nat) (v : Int) (hb : Below w.heap.size w w1) (h2 : w2.heap = (w1.setCell ⟨g, A, none⟩ (.int .i64 v)).heap) (h3 : w2.os = w1.os ∧ w2.tape = w1.tape ∧ w2.output = w1.output ∧ w2.heap.size = w1.heap.size) :
    GaveM w b g c r (L.set A v) (.returned r) w2 := by
  have h1 := h.below hb
  refine ⟨rfl, h1.set (by simp) ?_ ?_, ⟨h3.1.trans hb.os, h3.2.1.trans hb.tape, h3.2.2.1.trans hb.output, by rw [h3.2.2.2]; exact hb.size, fun k hk hne => ?_⟩⟩
  · rw [h2, heap_setCell_other _ _ _ _ h.ne]
  · rw [h2, heap_setCell_same w1 g A _ _ _ h1.hg]
    congr 3
    simp [icells, List.map_set]
  · rw [h2, heap_setCell_other _ _ _ _ hne]
    exact hb.block k hk

/-- What Do knows of a world: its operation's box, the memory's slice, and the word at its address. -/
structure Dq (w : World) (b g n A : Nat) (k u v : Int) (w' : World) : Prop where
  bx : ∀ o, w'.cell? ⟨w.heap.size, o, none⟩ = (#[Value.int .i64 k, .int .i64 A, .int .i64 u])[o]?
  c13 : w'.cell? ⟨b, 13, none⟩ = some (.slice (some ⟨g, 0, none⟩) n n)
  cA : w'.cell? ⟨g, A, none⟩ = some (.int .i64 v)
  fA : w'.frozen? ⟨g, A, none⟩ = false
  bl : Below w.heap.size w w'
  zl : w.heap.size < w'.heap.size
  hb : b < w.heap.size
  hg : g < w.heap.size
theorem Dq.step {w w' w'' : World} {b g n A : Nat} {k u v : Int} (h : Dq w b g n A k u v w') (hb : Below w'.heap.size w' w'') : Dq w b g n A k u v w'' :=
  ⟨fun o => (hb.cell (p := ⟨w.heap.size, o, none⟩) h.zl).trans (h.bx o), (hb.cell (p := ⟨b, 13, none⟩) (by have := h.hb; have := h.zl; simp; omega)).trans h.c13, (hb.cell (p := ⟨g, A, none⟩) (by have := h.hg; have := h.zl; simp; omega)).trans h.cA,
    (World.frozen?_of_block (a := ⟨g, A, none⟩) (hb.block g (by have := h.hg; have := h.zl; omega))).trans h.fA, bstep h.bl hb, Nat.lt_of_lt_of_le h.zl hb.size, h.hb, h.hg⟩
theorem Dq.drew {w w' : World} {b g n A : Nat} {k u v : Int} (h : Dq w b g n A k u v w') : Dq w b g n A k u v w'.drew := h.step (Below.refl _ _).drew

theorem do_no {w : World} {b g : Nat} {c : Cfg} {L : List Int} (h : Mm w b g c L) (x : Op) (hn : ¬ (mayB x = true ∧ inR x.a L.length = true)) :
    Calls Tryd.prog 7 #[.pointer (some ⟨b, 0, none⟩), ov x] w (GaveM w b g c (.tuple #[.int .i64 0, .int .i64 1]) L) := by
  have HE := Lib.hid (fun w' => GaveM.same (w' := w') h (.tuple #[.int .i64 0, .int .i64 1]))
  rcases Bool.eq_false_or_eq_true (mayB x) with hm | hm
  · have hr : inR x.a L.length = false := by simpa [hm] using hn
    have HA := Lib.hid (fun w1 (hb : Below w.heap.size w w1) => has_any (h.below hb) x.a)
    have HM := Lib.hid (fun w => may_any x w)
    rw [hr] at HA
    rw [hm] at HM
    clear h hn hr hm
    obtain ⟨k, a, u⟩ := x
    go_enter Tryd.func7, Tryd.ntmps7
    go_wp2_with (first
      | (go_at_call 11; refine (HM.out _).mono ?_; rintro e w1 ⟨rfl, hb1⟩; have hcl := fun o => hb1.cell (p := ⟨w.heap.size, o, none⟩) (by simp))
      | (go_at_call 16; refine (HA.out _ (bbox hb1)).mono ?_; rintro e w2 ⟨rfl, rfl⟩))
    go_ret2
    exact HE.out _ (bbox hb1)
  · have HM := Lib.hid (fun w => may_any x w)
    rw [hm] at HM
    clear h hn hm
    obtain ⟨k, a, u⟩ := x
    go_enter Tryd.func7, Tryd.ntmps7
    go_wp2_with (go_at_call 11; refine (HM.out _).mono ?_; rintro e w1 ⟨rfl, hb1⟩)
    go_ret2
    exact HE.out _ (bbox hb1)

set_option maxHeartbeats 2000000 in
theorem do_yes {w : World} {b g : Nat} {c : Cfg} {L : List Int} (h : Mm w b g c L) (x : Op) (hm : mayB x = true) (hr : inR x.a L.length = true) :
    Calls Tryd.prog 7 #[.pointer (some ⟨b, 0, none⟩), ov x] w (GaveM w b g c (.tuple #[.int .i64 (tld (wrd L x.a) x), .int .i64 0]) (L.set x.a.toNat (lft (wrd L x.a) x))) := by
  have h' := inR_of hr
  have HA := Lib.hid (fun w1 (hb : Below w.heap.size w w1) => has_any (h.below hb) x.a)
  have HM := Lib.hid (fun w => may_any x w)
  rw [hr] at HA
  rw [hm] at HM
  obtain ⟨k, a, u⟩ := x
  obtain ⟨A, rfl⟩ : ∃ A : Nat, a = A := ⟨a.toNat, by have : 0 ≤ a := h'.1; omega⟩
  have hA : A < L.length := by have : (A : Int) < L.length := h'.2; omega
  have hv : wrd L A = L.getD A 0 := by unfold wrd; rw [if_pos hr, Int.toNat_natCast]
  have HD := Lib.hid (fun w => done_any (wrd L A) ⟨k, A, u⟩ w)
  have HG := Lib.hid (fun w1 w2 => gave_word (w1 := w1) (w2 := w2) h (.tuple #[.int .i64 (tld (wrd L A) ⟨k, A, u⟩), .int .i64 0]) A (lft (wrd L A) ⟨k, A, u⟩))
  have HC := Lib.hid (fun w1 (hb : Below w.heap.size w w1) => (⟨blk_cell (h.below hb).hb 13, (blk_cell (h.below hb).hg A).trans (icells_at L A hA), blk_free (h.below hb).hg A⟩ : w1.cell? ⟨b, 13, none⟩ = _ ∧ w1.cell? ⟨g, A, none⟩ = _ ∧ _))
  rw [← hv] at HC
  simp at HC
  rw [Int.toNat_natCast]
  generalize lft (wrd L A) ⟨k, A, u⟩ = lf at *
  generalize tld (wrd L A) ⟨k, A, u⟩ = tl at *
  generalize wrd L A = v at *
  have hbl := h.bl
  have hgl := h.gl
  clear h hm hr hv
  go_enter Tryd.func7, Tryd.ntmps7
  go_wp2_with (first
    | (go_at_call 11; refine (HM.out _).mono ?_; rintro e w1 ⟨rfl, hb1⟩; have hcl := fun o => hb1.cell (p := ⟨w.heap.size, o, none⟩) (by simp))
    | (go_at_call 16; refine (HA.out _ (bbox hb1)).mono ?_; rintro e w2 ⟨rfl, rfl⟩))
  have L0 := Lib.hid (Dq.mk (k := k) (u := u) (v := v) (n := L.length) (A := A) (fun o => (hcl o).trans (World.cell?_alloc_mark w _ 27 (0, 0) o)) (HC.out _ (bbox hb1)).1 (HC.out _ (bbox hb1)).2.1 (HC.out _ (bbox hb1)).2.2 (bbox hb1) (zbox hb1) hbl hgl)
  have hbx := L0.out.bx
  have c13 := L0.out.c13
  have cA := L0.out.cA
  clear hcl HC
  go_region_held3 (fun w' => (∀ o, w'.cell? ⟨w.heap.size, o, none⟩ = (#[Value.int .i64 k, .int .i64 A, .int .i64 u])[o]?) ∧ w'.cell? ⟨b, 13, none⟩ = some (.slice (some ⟨g, 0, none⟩) L.length L.length) ∧ w'.cell? ⟨g, A, none⟩ = some (.int .i64 v))
    (first | exact ⟨L1.out.bx, L1.out.c13, L1.out.cA⟩ | exact ⟨L0.out.bx, L0.out.c13, L0.out.cA⟩ | go_keep)
    (first
      | (go_at_call 17; refine (HD.out _).mono ?_; rintro e w3 ⟨rfl, hb3⟩; have L1 := (by first | exact Lib.hid (L0.out.step hb3) | exact Lib.hid (L0.out.drew.step hb3)); clear hb3))
  have c0 := L1.out.bx
  have c13 := L1.out.c13
  have cA := L1.out.cA
  have fA := L1.out.fA
  go_wp2_with fail
  go_region
  all_goals
    go_wp2
    go_ret2
    exact HG.out _ _ L1.out.bl rfl ⟨rfl, rfl, rfl, by simp [World.drew]⟩

/-- Do. -/
theorem do_any {w : World} {b g : Nat} {c : Cfg} {L : List Int} (h : Mm w b g c L) (x : Op) :
    Calls Tryd.prog 7 #[.pointer (some ⟨b, 0, none⟩), ov x] w (GaveM w b g c (.tuple #[.int .i64 (doP L x).1.1, .int .i64 (doP L x).1.2]) (doP L x).2) := by
  by_cases hx : mayB x = true ∧ inR x.a L.length = true
  · rw [doP_yes hx]
    exact do_yes h x hx.1 hx.2
  · rw [doP_no hx]
    exact do_no h x hx

end Go.Proofs.YticfdkopephkkaaDoor
