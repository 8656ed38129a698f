/-
  What Send of the document's net does, where nothing is sent.
-/
import Derived.Test.YtdggjbaapnkcgaaNtR
import Derived.Test.YtdggjbaapnkcgaaMsP
import Derived.Deep.RegionHeld3
namespace Go.Proofs.Ytdggjbaapnkcgaa
open Go Go.RowKit Go.Sort

/-- The document's net's block, and the block of the message that is sent. -/
structure RM (w : World) (r : Nat) (C : Array Value) (m : Msg) (w1 : World) : Prop where
  nn : ∀ o, w1.cell? ⟨r, o, none⟩ = C[o]?
  mm : ∀ o, w1.cell? ⟨w.heap.size, o, none⟩ = (mcells m)[o]?
  below : Below w.heap.size w w1
  lt : r < w.heap.size
  gt : w.heap.size < w1.heap.size
theorem RM.step {w w1 w2 : World} {r : Nat} {C : Array Value} {m : Msg} (h : RM w r C m w1) (hb : Below w1.heap.size w1 w2) : RM w r C m w2 where
  nn := fun o => (hb.cell (p := ⟨r, o, none⟩) (Nat.lt_trans h.lt h.gt)).trans (h.nn o)
  mm := fun o => (hb.cell (p := ⟨w.heap.size, o, none⟩) h.gt).trans (h.mm o)
  below := bstep h.below hb
  lt := h.lt
  gt := Nat.lt_of_lt_of_le h.gt hb.size
theorem RM.drew {w w1 : World} {r : Nat} {C : Array Value} {m : Msg} (h : RM w r C m w1) : RM w r C m w1.drew := h.step ⟨rfl, rfl, rfl, Nat.le_refl _, fun _ _ => rfl⟩
variable {w : World} {B r : Nat} {c : Cfg} {l : Nat → List Msg} {u : Nat → Value}
theorem RM.new (h : RefP w B r c l u) (m : Msg) : RM w r (mkcells c (u 0) (u 1) (u 2)) m (w.alloc (.cells (mcells m) 37)) where
  nn := fun o => (((Below.refl _ w).alloc (Nat.le_refl _) (.cells (mcells m) 37)).cell (p := ⟨r, o, none⟩) h.lt).trans (blk_cell h.blk o)
  mm := fun o => blk_cell (heap_alloc_new w _) o
  below := (Below.refl _ w).alloc (Nat.le_refl _) _
  lt := h.lt
  gt := by simp

set_option maxRecDepth 100000 in
set_option maxHeartbeats 2000000 in
theorem rsend_bad (h : RefP w B r c l u) (m : Msg) (hm : mayM c m = false) :
    Calls Try.prog 13 #[.pointer (some ⟨r, 0, none⟩), mv m] w fun e w' => e = .returned (.int .i64 1) ∧ Below w.heap.size w w' := by
  have HM := Lib.hid (fun w => refMay_any c m w)
  have L0 := Lib.hid (RM.new h m)
  have hn := L0.out.nn
  have hmc := L0.out.mm
  clear h
  go_enter Try.func13, Try.ntmps13
  go_wp2_with fail
  go_region_held3 (fun w' => (∀ o, w'.cell? ⟨r, o, none⟩ = (mkcells c (u 0) (u 1) (u 2))[o]?) ∧ (∀ o, w'.cell? ⟨w.heap.size, o, none⟩ = (mcells m)[o]?))
    (first | exact ⟨L1.out.nn, L1.out.mm⟩ | exact ⟨L0.out.nn, L0.out.mm⟩ | go_keep)
    (first
      | (go_at_call 23; refine (HM.out _).mono ?_; rintro e w1 ⟨rfl, hb1⟩; rw [hm]; have L1 := (by first | exact Lib.hid (L0.out.step hb1) | exact Lib.hid (L0.out.drew.step hb1)); clear hb1))
  all_goals
    go_wp2
    go_ret
    exact ⟨rfl, L1.out.below⟩

set_option maxRecDepth 100000 in
set_option maxHeartbeats 2000000 in
theorem rsend_full (h : RefP w B r c l u) (m : Msg) (j : Nat) (hj : j < 3) (hm : mayM c m = true) (hnet : net m.kd = j) (hl : room c j = (l j).length) :
    Calls Try.prog 13 #[.pointer (some ⟨r, 0, none⟩), mv m] w fun e w' => e = .returned (.int .i64 4) ∧ Below w.heap.size w w' := by
  have HM := Lib.hid (fun w => refMay_any c m w)
  have L0 := Lib.hid (RM.new h m)
  have HP := Lib.hid h
  have hn := L0.out.nn
  have hmc := L0.out.mm
  have hN64 := h.len64 j hj
  have HNE := Lib.hid hnet
  have h3 : (j : Int) < 3 := by omega
  have h4 : (0 : Int) ≤ (j : Int) := by omega
  have HJ := Lib.hid hj
  have HL := Lib.hid hl
  clear h hnet hj hl
  go_enter Try.func13, Try.ntmps13
  go_wp2_with fail
  go_region_held3 (fun w' => (∀ o, w'.cell? ⟨r, o, none⟩ = (mkcells c (u 0) (u 1) (u 2))[o]?) ∧ (∀ o, w'.cell? ⟨w.heap.size, o, none⟩ = (mcells m)[o]?))
    (first | exact ⟨L1.out.nn, L1.out.mm⟩ | exact ⟨L0.out.nn, L0.out.mm⟩ | go_keep)
    (first
      | (go_at_call 23; refine (HM.out _).mono ?_; rintro e w1 ⟨rfl, hb1⟩; rw [hm]; have L1 := (by first | exact Lib.hid (L0.out.step hb1) | exact Lib.hid (L0.out.drew.step hb1)); clear hb1))
  all_goals
    clear hn hmc
    have hmc := L1.out.mm
    go_wp2_with fail
    refine (refNet_any _ _).mono ?_
    rintro e w2 ⟨rfl, hb2⟩
    rw [HNE.out]
    have L2 := Lib.hid (L1.out.step hb2)
    clear hb2 hmc L1
    obtain ⟨p, cap, -, c1, c2, -, -⟩ := (HP.out.below L2.out.below).cells j HJ.out
    obtain ⟨N, hN⟩ : ∃ N, N = (l j).length := ⟨_, rfl⟩
    have hRN : room c j = (N : Int) := by rw [hN]; exact HL.out
    rw [hRN] at c2
    rw [← hN] at c1 hN64
    clear hRN hN
    go_wp2_with fail
    go_quiet (fail)
    go_wp2
    go_ret
    exact ⟨rfl, below_drewN L2.out.below _⟩

end Go.Proofs.Ytdggjbaapnkcgaa
