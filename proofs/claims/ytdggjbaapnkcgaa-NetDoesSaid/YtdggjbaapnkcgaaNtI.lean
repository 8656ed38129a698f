/-
  What Send of a net does.
-/
import Derived.Test.YtdggjbaapnkcgaaNtE
import Derived.Test.YtdggjbaapnkcgaaMsF
namespace Go.Proofs.Ytdggjbaapnkcgaa
open Go Go.RowKit Go.Sort

theorem ok_fits {c : Cfg} (h : okC c = true) : c.fits := by
  rw [okC_eq] at h
  simp only [Bool.and_eq_true] at h
  obtain ⟨⟨⟨⟨⟨⟨⟨⟨⟨⟨h0, h1⟩, h2⟩, h3⟩, h4⟩, h5⟩, h6⟩, h7⟩, h8⟩, h9⟩, ⟨h10, h11⟩, h12⟩ := h
  have g0 := inB_of h0; have g1 := powB_of h1; have g2 := powB_of h2; have g3 := inB_of h3; have g4 := powB_of h4; have g5 := powB_of h5; have g6 := inB_of h6
  have g7 := inB_of h7; have g8 := inB_of h8; have g9 := inB_of h9; have g10 := inB_of h10; have g11 := inB_of h11; have g12 := inB_of h12
  simp only [room, List.getD_cons_zero, List.getD_cons_succ] at g10 g11 g12
  unfold Cfg.fits
  omega

/-- A net's block, and the block of the message that is sent. -/
structure NM (w : World) (n : Nat) (c : Cfg) (b : Nat → Nat) (m : Msg) (w1 : World) : Prop where
  nn : ∀ o, w1.cell? ⟨n, o, none⟩ = (ncells c b)[o]?
  mm : ∀ o, w1.cell? ⟨w.heap.size, o, none⟩ = (mcells m)[o]?
  below : Below w.heap.size w w1
  lt : n < w.heap.size
  gt : w.heap.size < w1.heap.size
theorem NM.step {w w1 w2 : World} {n : Nat} {c : Cfg} {b : Nat → Nat} {m : Msg} (h : NM w n c b m w1) (hb : Below w1.heap.size w1 w2) : NM w n c b m w2 where
  nn := fun o => (hb.cell (p := ⟨n, o, none⟩) (Nat.lt_trans h.lt h.gt)).trans (h.nn o)
  mm := fun o => (hb.cell (p := ⟨w.heap.size, o, none⟩) h.gt).trans (h.mm o)
  below := bstep h.below hb
  lt := h.lt
  gt := Nat.lt_of_lt_of_le h.gt hb.size
theorem NM.drew {w w1 : World} {n : Nat} {c : Cfg} {b : Nat → Nat} {m : Msg} (h : NM w n c b m w1) : NM w n c b m w1.drew := h.step ⟨rfl, rfl, rfl, Nat.le_refl _, fun _ _ => rfl⟩

variable {w : World} {B n : Nat} {c : Cfg} {b : Nat → Nat} {l : Nat → List Msg} {v : Nat → Value}
theorem NM.new (h : NetP w B n c b l v) (m : Msg) : NM w n c b m (w.alloc (.cells (mcells m) 37)) where
  nn := fun o => (((Below.refl _ w).alloc (Nat.le_refl _) (.cells (mcells m) 37)).cell (p := ⟨n, o, none⟩) h.lt).trans (blk_cell h.blk o)
  mm := fun o => blk_cell (heap_alloc_new w _) o
  below := (Below.refl _ w).alloc (Nat.le_refl _) _
  lt := h.lt
  gt := by simp

set_option maxRecDepth 100000 in
set_option maxHeartbeats 2000000 in
theorem nsend_bad (h : NetP w B n c b l v) (m : Msg) (hm : mayM c m = false) :
    Calls Try.prog 12 #[.pointer (some ⟨n, 0, none⟩), mv m] w fun e w' => e = .returned (.int .i64 1) ∧ Below w.heap.size w w' := by
  have HM := Lib.hid (fun w => may_any c m w (ok_fits h.ok))
  have L0 := Lib.hid (NM.new h m)
  have hn := L0.out.nn
  have hmc := L0.out.mm
  clear h
  go_enter Try.func12, Try.ntmps12
  go_wp2_with fail
  go_region_held3 (fun w' => (∀ o, w'.cell? ⟨n, o, none⟩ = (ncells c b)[o]?) ∧ (∀ o, w'.cell? ⟨w.heap.size, o, none⟩ = (mcells m)[o]?))
    (first | exact ⟨L1.out.nn, L1.out.mm⟩ | exact ⟨L0.out.nn, L0.out.mm⟩ | go_keep)
    (first
      | (go_at_call 30; refine (HM.out _).mono ?_; rintro e w1 ⟨rfl, hb1⟩; rw [hm]; have L1 := (by first | exact Lib.hid (L0.out.step hb1) | exact Lib.hid (L0.out.drew.step hb1)); clear hb1))
  all_goals
    go_wp2
    go_ret
    exact ⟨rfl, L1.out.below⟩

set_option maxRecDepth 100000 in
set_option maxHeartbeats 4000000 in
theorem nsend_of (h : NetP w B n c b l v) (m : Msg) (j : Nat) (hj : j < 3) (hm : mayM c m = true) (hnet : net m.kd = j) (q : Int) (R : World → World → Prop) (P : World → Prop)
    (HP0 : ∀ wa, Below w.heap.size w wa → Calls Try.prog 32 #[.pointer (some ⟨b j, 0, none⟩), mv m] wa fun e w' => e = .returned (.int .i64 q) ∧ R wa w')
    (HR0 : ∀ wa w1, Below w.heap.size w wa → w.heap.size < wa.heap.size → R wa w1 → P w1 ∧ (∀ o, w1.cell? ⟨n, o, none⟩ = (ncells c b)[o]?) ∧ w1.heap[w.heap.size]? = wa.heap[w.heap.size]?) :
    Calls Try.prog 12 #[.pointer (some ⟨n, 0, none⟩), mv m] w fun e w' => e = .returned (.int .i64 q) ∧ P w' := by
  have HP := Lib.hid HP0
  have HR := Lib.hid HR0
  have HM := Lib.hid (fun w => may_any c m w (ok_fits h.ok))
  have L0 := Lib.hid (NM.new h m)
  have hn := L0.out.nn
  have hmc := L0.out.mm
  have hm' := Lib.hid hm
  have hnet' := Lib.hid hnet
  clear h HP0 HR0 hm hnet
  go_enter Try.func12, Try.ntmps12
  go_wp2_with fail
  go_region_held3 (fun w' => (∀ o, w'.cell? ⟨n, o, none⟩ = (ncells c b)[o]?) ∧ (∀ o, w'.cell? ⟨w.heap.size, o, none⟩ = (mcells m)[o]?))
    (first | exact ⟨L1.out.nn, L1.out.mm⟩ | exact ⟨L0.out.nn, L0.out.mm⟩ | go_keep)
    (first
      | (go_at_call 30; refine (HM.out _).mono ?_; rintro e w1 ⟨rfl, hb1⟩; rw [hm'.out]; have L1 := (by first | exact Lib.hid (L0.out.step hb1) | exact Lib.hid (L0.out.drew.step hb1)); clear hb1))
  all_goals
    clear hn hmc
    have hn := L1.out.nn
    have hmc := L1.out.mm
    go_wp2_with fail
    rcases (show j = 0 ∨ j = 1 ∨ j = 2 by omega) with rfl | rfl | rfl
    all_goals
      clear hj
      go_region_held3 (fun w' => (∀ o, w'.cell? ⟨n, o, none⟩ = (ncells c b)[o]?) ∧ (∀ o, w'.cell? ⟨w.heap.size, o, none⟩ = (mcells m)[o]?))
        (first | exact ⟨hn3, hm3⟩ | exact ⟨L2.out.nn, L2.out.mm⟩ | exact ⟨L1.out.nn, L1.out.mm⟩ | go_keep)
        (first
          | (go_at_call 31; refine (net_any m.kd _).mono ?_; rintro e w2 ⟨rfl, hb2⟩; rw [hnet'.out]; have L2 := (by first | exact Lib.hid (L1.out.step hb2) | exact Lib.hid (L1.out.drew.step hb2)); clear hb2)
          | (go_at_call 32; refine (HP.out _ (by first | exact L2.out.below | exact L2.out.drew.below)).mono ?_; rintro e w3 ⟨rfl, hr3⟩; obtain ⟨hp3, hn3, hb3⟩ := HR.out _ _ (by first | exact L2.out.below | exact L2.out.drew.below) (by first | exact L2.out.gt | exact L2.out.drew.gt) hr3; have hm3 : ∀ o, w3.cell? ⟨w.heap.size, o, none⟩ = (mcells m)[o]? := (fun o => (World.cell?_of_block hb3).trans (by first | exact L2.out.mm o | exact L2.out.drew.mm o)); clear hr3 hb3))
      all_goals
        go_wp2
        go_ret
        exact ⟨rfl, hp3⟩
theorem nsend_full (h : NetP w B n c b l v) (m : Msg) (j : Nat) (hj : j < 3) (hm : mayM c m = true) (hnet : net m.kd = j) (hl : room c j = (l j).length) :
    Calls Try.prog 12 #[.pointer (some ⟨n, 0, none⟩), mv m] w fun e w' => e = .returned (.int .i64 4) ∧ Below w.heap.size w w' :=
  nsend_of h m j hj hm hnet 4 (fun wa => Below wa.heap.size wa) _ (fun wa hb => putM_full ((h.below hb).bag j hj) m (by have := room_le h.ok j hj; omega) (by have := room_le h.ok j hj; omega) hl)
    fun wa w1 hb _ hr => ⟨bstep hb hr, fun o => blk_cell (h.below (bstep hb hr)).blk o, hr.block _ (by assumption)⟩
theorem nsend_ok (h : NetP w B n c b l v) (hB : B ≤ w.heap.size) (m : Msg) (j : Nat) (hj : j < 3) (hm : mayM c m = true) (hnet : net m.kd = j) (hl : ((l j).length : Int) < room c j) :
    Calls Try.prog 12 #[.pointer (some ⟨n, 0, none⟩), mv m] w fun e w' => e = .returned (.int .i64 0) ∧ NetGave w B n c b (upd l j (l j ++ [m])) v w' :=
  nsend_of h m j hj hm hnet 0 (fun wa w1 => NetGave wa B n c b (upd l j (l j ++ [m])) v w1) _
    (fun wa hb => (putM_ok ((h.below hb).bag j hj) m (by have := hb.size; omega) (by have := room_le h.ok j hj; omega) (by have := room_le h.ok j hj; omega) hl).mono fun _ _ ⟨he, hg⟩ => ⟨he, (h.below hb).turn j hj (by simp; omega) hg⟩)
    fun wa w1 hb hlt hr => ⟨hr.mono hb, (by obtain ⟨u, h1, _, _⟩ := hr; exact fun o => blk_cell h1.blk o), hr.aside h _ (Nat.le_refl _) hlt⟩

end Go.Proofs.Ytdggjbaapnkcgaa
