/-
  That awake of layer 2 is true: the calls whose answers the document fixes.
-/
import Derived.Test.YtnlcmbcaggkhdaaDoorSplitM
namespace Go.Proofs.YtnlcmbcaggkhdaaDoor
open Go Go.RowKit

/-- The call's first own block still holds these cells, and nothing that was there has changed. -/
def Kp (w : World) (L : Array Value) (w1 : World) : Prop := (∀ o, w1.cell? ⟨w.heap.size, o, none⟩ = L[o]?) ∧ w.heap.size < w1.heap.size ∧ Below w.heap.size w w1
theorem Kp.box (w : World) (L : Array Value) (t : TypeId) : Kp w L (w.alloc (.cells L t)) :=
  ⟨fun o => World.cell?_alloc_mark w _ t (0, 0) o, by simp, (Below.refl _ _).alloc (Nat.le_refl _) _⟩
theorem Kp.step {w w1 w2 : World} {L : Array Value} (h : Kp w L w1) (hb : Below w1.heap.size w1 w2) : Kp w L w2 :=
  ⟨fun o => (hb.cell (p := ⟨w.heap.size, o, none⟩) h.2.1).trans (h.1 o), Nat.lt_of_lt_of_le h.2.1 hb.size, bstep h.2.2 hb⟩
theorem Row.form {w : World} {B : Nat} {v : Value} {xs : List Int} (h : Row w B v xs) : ∃ a cap, v = .slice a xs.length cap := by
  rcases h with ⟨rfl, rfl⟩ | ⟨g, cap, e, _, _⟩
  · exact ⟨none, 0, rfl⟩
  · exact ⟨_, cap, e⟩

theorem aw1 : adL ⟨1, 2, 4, 1, 4, 16, 0, 1, 1, 1, 1, 1, 1⟩ 45 = 11 ∧ adW ⟨1, 2, 4, 1, 4, 16, 0, 1, 1, 1, 1, 1, 1⟩ 45 = 1 ∧ adE ⟨1, 2, 4, 1, 4, 16, 0, 1, 1, 1, 1, 1, 1⟩ 45 = 0 ∧ adE ⟨1, 2, 4, 1, 4, 16, 0, 1, 1, 1, 1, 1, 1⟩ 64 = 1 := by decide +kernel
theorem aw2 : lnH ⟨1, 2, 4, 1, 4, 16, 0, 1, 1, 1, 1, 1, 1⟩ 11 = 1 ∧ lnS ⟨1, 2, 4, 1, 4, 16, 0, 1, 1, 1, 1, 1, 1⟩ 11 = 3 ∧ lnT ⟨1, 2, 4, 1, 4, 16, 0, 1, 1, 1, 1, 1, 1⟩ 11 = 2 ∧ lnE ⟨1, 2, 4, 1, 4, 16, 0, 1, 1, 1, 1, 1, 1⟩ 11 = 0 := by decide +kernel
theorem aw3 : joA ⟨1, 2, 4, 1, 4, 16, 0, 1, 1, 1, 1, 1, 1⟩ 11 1 = 45 ∧ joE ⟨1, 2, 4, 1, 4, 16, 0, 1, 1, 1, 1, 1, 1⟩ 11 1 = 0 ∧ tgL ⟨1, 2, 4, 1, 4, 16, 0, 1, 1, 1, 1, 1, 1⟩ 3 2 = 11 ∧ tgE ⟨1, 2, 4, 1, 4, 16, 0, 1, 1, 1, 1, 1, 1⟩ 3 2 = 0 := by decide +kernel
theorem aw4 : (lns ⟨1, 2, 4, 1, 4, 16, 0, 1, 1, 1, 1, 1, 1⟩ 1).length = 8 ∧ (lns ⟨1, 2, 4, 1, 4, 16, 0, 1, 1, 1, 1, 1, 1⟩ 2).length = 0 := by decide +kernel
theorem awFits : Cfg.fits ⟨1, 2, 4, 1, 4, 16, 0, 1, 1, 1, 1, 1, 1⟩ := by simp [Cfg.fits]

set_option maxRecDepth 100000 in
set_option maxHeartbeats 2000000 in
theorem awake2_any (w : World) (hT : Tb w) :
    Calls Tryd.prog 6 #[] w fun e w' => e = .returned (.bool true) ∧ Below w.heap.size w w' := by
  have HT := Lib.hid hT
  clear hT
  obtain ⟨a1, a2, a3, a4⟩ := aw1
  obtain ⟨b1, b2, b3, b4⟩ := aw2
  obtain ⟨c1, c2, c3, c4⟩ := aw3
  obtain ⟨d1, d2⟩ := aw4
  have D1 := Lib.hid d1
  have D2 := Lib.hid d2
  clear d1 d2
  have K0 := Kp.box w #[Value.int .i64 1, .int .i64 2, .int .i64 4, .int .i64 1, .int .i64 4, .int .i64 16, .int .i64 0, .int .i64 1, .int .i64 1, .int .i64 1, .int .i64 1, .int .i64 1, .int .i64 1] 24
  go_enter Tryd.func6, Tryd.ntmps6
  go_wp2_with (fail)
  refine (addr_any ⟨1, 2, 4, 1, 4, 16, 0, 1, 1, 1, 1, 1, 1⟩ 45 _ awFits (HT.out.keeps K0.2.2)).mono ?_
  rintro e w1 ⟨rfl, hb1⟩
  have K1 := K0.step hb1
  have hc1 := K1.1
  clear hb1 K0
  go_wp2_with (fail)
  refine (line_any ⟨1, 2, 4, 1, 4, 16, 0, 1, 1, 1, 1, 1, 1⟩ 11 _ awFits (HT.out.keeps K1.2.2)).mono ?_
  rintro e w2 ⟨rfl, hb2⟩
  have K2 := K1.step hb2
  have hc2 := K2.1
  clear hb2 hc1
  go_wp2_with (fail)
  refine (joinS_any ⟨1, 2, 4, 1, 4, 16, 0, 1, 1, 1, 1, 1, 1⟩ 11 1 _ awFits (HT.out.keeps K2.2.2)).mono ?_
  rintro e w3 ⟨rfl, hb3⟩
  have K3 := K2.step hb3
  have hc3 := K3.1
  clear hb3 hc2
  go_wp2_with (fail)
  refine (tagged_any ⟨1, 2, 4, 1, 4, 16, 0, 1, 1, 1, 1, 1, 1⟩ 3 2 _ awFits (HT.out.keeps K3.2.2)).mono ?_
  rintro e w4 ⟨rfl, hb4⟩
  have K4 := K3.step hb4
  have hc4 := K4.1
  clear hb4 hc3
  go_wp2_with (fail)
  refine (addr_any ⟨1, 2, 4, 1, 4, 16, 0, 1, 1, 1, 1, 1, 1⟩ 64 _ awFits (HT.out.keeps K4.2.2)).mono ?_
  rintro e w5 ⟨rfl, hb5⟩
  have K5 := K4.step hb5
  have hc5 := K5.1
  clear hb5 hc4
  go_wp2_with (fail)
  refine (lines_any ⟨1, 2, 4, 1, 4, 16, 0, 1, 1, 1, 1, 1, 1⟩ 1 _ awFits (HT.out.keeps K5.2.2)).mono ?_
  rintro e w6 ⟨v6, rfl, hr6, hb6⟩
  have K6 := K5.step hb6
  have hc6 := K6.1
  clear hb6 hc5
  obtain ⟨s6, cap6, rfl⟩ := hr6.form
  rw [D1.out]
  clear hr6
  go_wp2_with (fail)
  refine (lines_any ⟨1, 2, 4, 1, 4, 16, 0, 1, 1, 1, 1, 1, 1⟩ 2 _ awFits (HT.out.keeps K6.2.2)).mono ?_
  rintro e w7 ⟨v7, rfl, hr7, hb7⟩
  have K7 := K6.step hb7
  have hc7 := K7.1
  clear hb7 hc6
  obtain ⟨s7, cap7, rfl⟩ := hr7.form
  rw [D2.out]
  clear hr7
  go_wp2
  go_ret
  exact ⟨rfl, K7.2.2⟩

end Go.Proofs.YtnlcmbcaggkhdaaDoor
