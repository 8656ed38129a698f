/-
  What the document's own May does, of any message and machine.
-/
import Derived.Test.YtlfhkjjjocmpbaaGreatDoorMsI2
import Derived.Test.YtlfhkjjjocmpbaaGreatDoorMsF
namespace Go.Proofs.YtlfhkjjjocmpbaaGreatDoor
open Go Go.RowKit Go.Sort

set_option maxRecDepth 100000 in
set_option maxHeartbeats 2000000 in
theorem refMay_bad0 (c : Cfg) (m : Msg) (w : World) (hok : okC c = false) :
    Calls Tryz.prog 79 #[cv c, mv m] w fun e w' => e = .returned (.bool false) ∧ Below w.heap.size w w' := by
  have h0 := chk_no c hok
  have KK := K2.box w (ccells c) (mcells m) 24 38
  clear hok
  go_enter Tryz.func79, Tryz.ntmps79
  go_wp2_with (fail)
  refine (refCheck_any c _).mono ?_
  rintro e w1 ⟨rfl, hb1⟩
  have K1 := KK.step hb1
  clear hb1 KK
  go_wp2
  go_ret
  exact ⟨rfl, K1.below⟩

set_option maxRecDepth 100000 in
set_option maxHeartbeats 2000000 in
theorem refMay_bad1 (c : Cfg) (m : Msg) (w : World) (hok : okC c = true) (hb : ¬ ((1 ≤ m.kd ∧ m.kd ≤ 11) ∧ 0 ≤ m.ln ∧ m.ln < c.li)) :
    Calls Tryz.prog 79 #[cv c, mv m] w fun e w' => e = .returned (.bool false) ∧ Below w.heap.size w w' := by
  have h0 := chk_ok c hok
  have KK := K2.box w (ccells c) (mcells m) 24 38
  have HH := Lib.hid hok
  clear hok
  rcases (show m.kd < 1 ∨ (1 ≤ m.kd ∧ 11 < m.kd) ∨ (1 ≤ m.kd ∧ m.kd ≤ 11 ∧ m.ln < 0) ∨ (1 ≤ m.kd ∧ m.kd ≤ 11 ∧ 0 ≤ m.ln ∧ c.li ≤ m.ln) by omega) with hx | ⟨x1, x2⟩ | ⟨x1, x2, x3⟩ | ⟨x1, x2, x3, x4⟩
  all_goals
    clear hb
    go_enter Tryz.func79, Tryz.ntmps79
    go_wp2_with (fail)
    refine (refCheck_any c _).mono ?_
    rintro e w1 ⟨rfl, hb1⟩
    have K1 := KK.step hb1
    have ha := K1.a; have hb := K1.b
    clear hb1 KK
    go_wp2
    all_goals try (exfalso; omega)
    all_goals go_ret
    all_goals exact ⟨rfl, K1.below⟩

/-- May, the document's. -/
theorem refMay_any (c : Cfg) (m : Msg) (w : World) :
    Calls Tryz.prog 79 #[cv c, mv m] w fun e w' => e = .returned (.bool (mayM c m)) ∧ Below w.heap.size w w' := by
  rcases Bool.eq_false_or_eq_true (okC c) with hok | hok
  · by_cases hb : (1 ≤ m.kd ∧ m.kd ≤ 11) ∧ 0 ≤ m.ln ∧ m.ln < c.li
    · have hl := isin_yes hb.2.1 hb.2.2
      exact refMay_yes c m w hok hl (isKind_yes hb.1.1 hb.1.2)
    · rw [show mayM c m = false by
        rcases Bool.eq_false_or_eq_true (mayM c m) with h | h
        · obtain ⟨_, h1, h2, _, _⟩ := may_all h
          exact absurd ⟨isKind_of h2, isin_of h1⟩ hb
        · exact h]
      exact refMay_bad1 c m w hok hb
  · rw [may_no1 hok]
    exact refMay_bad0 c m w hok

end Go.Proofs.YtlfhkjjjocmpbaaGreatDoor
