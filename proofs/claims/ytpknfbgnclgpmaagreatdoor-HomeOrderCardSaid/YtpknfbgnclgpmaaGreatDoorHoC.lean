/-
  What Accept, Done, Entry, Line of a home do.
-/
import Derived.Test.YtpknfbgnclgpmaaGreatDoorHoB
import Derived.Test.YtpknfbgnclgpmaaGreatDoorMsD
namespace Go.Proofs.YtpknfbgnclgpmaaGreatDoor.Ho
open Go Go.RowKit

variable {w0 w w' wr : World} {K : Kb} {c : Cfg} {n : Int} {s : Hs} {X : Nat → Obj → Prop} {bx : Bx}
/-- Two blocks of a call's own. -/
structure H2 (w : World) (A B : Obj) (wr : World) : Prop where
  a : wr.heap[w.heap.size]? = some A
  b : wr.heap[w.heap.size + 1]? = some B
  below : Below w.heap.size w wr
theorem H2.box (w : World) (A B : Obj) : H2 w A B ((w.alloc A).alloc B) := ⟨Qu.new_at1 w _ _, Qu.new_at2 w _ _, ((Below.refl _ _).alloc (Nat.le_refl _) _).alloc (by simp) _⟩
theorem H2.step {A B : Obj} {wr' : World} (h : H2 w A B wr) (hb : Below wr.heap.size wr wr') : H2 w A B wr' := ⟨(hb.block _ (Qu.lt_of_block h.a)).trans h.a, (hb.block _ (Qu.lt_of_block h.b)).trans h.b, bstep h.below hb⟩
theorem H2.rowB {A : Obj} {cs : Array Value} {t : TypeId} (h : H2 w A (.cells cs t (0, 0)) wr) (cs' : Array Value) : H2 w A (.cells cs' t (0, 0)) (wr.setRow (w.heap.size + 1) cs') :=
  ⟨(setRow_other _ _ _ _ (by omega)).trans h.a, setRow_heap _ _ _ _ _ _ h.b, Qu.below_setRow h.below (by omega) _⟩
theorem H2.cellB {A : Obj} {cs : Array Value} {t : TypeId} (h : H2 w A (.cells cs t (0, 0)) wr) (i : Nat) (v : Value) : H2 w A (.cells (cs.setIfInBounds i v) t (0, 0)) (wr.setCell ⟨w.heap.size + 1, i, none⟩ v) :=
  ⟨(heap_setCell_other _ _ _ _ (by simp)).trans h.a, heap_setCell_same wr _ i _ _ v h.b, h.below.setCell (by simp) v⟩

/-! Accept and Done. -/
set_option maxRecDepth 100000 in
set_option maxHeartbeats 2000000 in
theorem Own.acceptF (h : Own w0 K c n s X bx w) (m : Msg) :
    Calls Tryz.prog 25 #[ptr K.h, mv m] w fun e w' => e = .returned (.int .i64 (acceptP c n s m).1) ∧ Own w0 K c n (acceptP c n s m).2 X bx w' := by
  have H1 := Lib.hid (h.add (.cells (mcells m) 38))
  have HMe := Lib.hid (fun w1 (h : Own w0 K c n s X ((w.heap.size, .cells (mcells m) 38 (0, 0)) :: bx) w1) => h.meant m)
  have hq : meantB c n m = false ∧ acceptP c n s m = (1, s) ∨ meantB c n m = true ∧ ((net m.kd != 0) = true ∧ acceptP c n s m = (1, s) ∨ (net m.kd != 0) = false ∧ (meantB c n m && net m.kd == 0) = true ∧ acceptP c n s m = ((Qu.addP c.bu s.Q m).1, { s with Q := (Qu.addP c.bu s.Q m).2 })) := by
    unfold acceptP
    rcases Bool.eq_false_or_eq_true (meantB c n m) with h1 | h1
    · right
      refine ⟨h1, ?_⟩
      by_cases h2 : net m.kd = 0
      · right; simp [h1, h2]
      · left; simp [h2]
    · left; simp [h1]
  have HQ := Lib.hid hq
  have hc1 := H1.out.cells (List.mem_cons_self ..)
  clear h hq
  rcases HQ.out with ⟨e1, e2⟩ | ⟨e1, ⟨e3, e2⟩ | ⟨e3, e4, e2⟩⟩
  · rw [e1] at HMe
    have HE := Lib.hid e2
    clear e1 e2 HQ
    go_enter Tryz.func25, Tryz.ntmps25
    go_wp2_with (go_at_call 57; refine (HMe.out _ H1.out).mono ?_; rintro e w2 ⟨rfl, hb2⟩; have H2 := Lib.hid (H1.out.step hb2); clear hb2)
    go_ret
    rw [HE.out]
    exact ⟨rfl, H2.out.drop⟩
  · rw [e1] at HMe
    have HE := Lib.hid e2
    clear e1 e2 HQ
    go_enter Tryz.func25, Tryz.ntmps25
    go_wp2_with (first
      | (go_at_call 57; refine (HMe.out _ H1.out).mono ?_; rintro e w2 ⟨rfl, hb2⟩; have H2 := Lib.hid (H1.out.step hb2); have hc2 := H2.out.cells (List.mem_cons_self ..); clear hb2)
      | (go_at_call 58; refine (net_any m.kd _).mono ?_; rintro e w3 ⟨rfl, hb3⟩; have H3 := Lib.hid (H2.out.step hb3); clear hb3))
    go_ret
    rw [HE.out]
    exact ⟨rfl, H3.out.drop⟩
  · rw [e1] at HMe
    have HE := Lib.hid e2
    have HA := Lib.hid (fun w1 (h : Own w0 K c n s X ((w.heap.size, .cells (mcells m) 38 (0, 0)) :: bx) w1) => h.addR m (rq_of e4))
    clear e1 e2 e4 HQ
    go_enter Tryz.func25, Tryz.ntmps25
    go_wp2_with (first
      | (go_at_call 57; refine (HMe.out _ H1.out).mono ?_; rintro e w2 ⟨rfl, hb2⟩; have H2 := Lib.hid (H1.out.step hb2); have hc2 := H2.out.cells (List.mem_cons_self ..); clear hb2)
      | (go_at_call 58; refine (net_any m.kd _).mono ?_; rintro e w3 ⟨rfl, hb3⟩; have H3 := Lib.hid (H2.out.step hb3); clear hb3))
    have hc3 := H3.out.cells (List.mem_cons_self ..)
    have hk3 := H3.out.hc
    clear H1 H2 hc1 hc2
    go_region_held3 (fun w' => (∀ o, w'.cell? ⟨K.h, o, none⟩ = (hcells c n K s.od)[o]?) ∧ (∀ o, w'.cell? ⟨w.heap.size, o, none⟩ = (mcells m)[o]?))
      (first | exact ⟨hk3, hc3⟩ | exact ⟨H4.out.hc, H4.out.cells (List.mem_cons_self ..)⟩ | go_keep)
      (first
        | (go_at_call 59; refine (HA.out _ (by first | exact H3.out | exact H3.out.drew)).mono ?_; rintro e w4 ⟨rfl, h4⟩; have H4 := Lib.hid h4; clear h4))
    go_wp2
    go_ret
    rw [HE.out]
    exact ⟨rfl, H4.out.drop⟩

end Go.Proofs.YtpknfbgnclgpmaaGreatDoor.Ho
