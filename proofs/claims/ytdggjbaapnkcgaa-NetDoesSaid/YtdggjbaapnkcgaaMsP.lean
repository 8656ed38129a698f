/-
  What the document's own May does, of any message and machine.
-/
import Derived.Test.YtdggjbaapnkcgaaMsI
namespace Go.Proofs.Ytdggjbaapnkcgaa
open Go Go.RowKit Go.Sort

set_option maxRecDepth 100000 in
set_option maxHeartbeats 2000000 in
theorem refMay_bad0 (c : Cfg) (m : Msg) (w : World) (hok : okC c = false) :
    Calls Try.prog 23 #[cv c, mv m] w fun e w' => e = .returned (.bool false) ∧ Below w.heap.size w w' := by
  have h0 := chk_no c hok
  have KK := K2.box w (ccells c) (mcells m) 24 37
  clear hok
  go_enter Try.func23, Try.ntmps23
  go_wp2_with (fail)
  refine (refCheck_any c _).mono ?_
  rintro e w1 ⟨rfl, hb1⟩
  have K1 := KK.step hb1
  clear hb1 KK
  go_wp2
  go_ret
  exact ⟨rfl, K1.below⟩

set_option maxRecDepth 100000 in
set_option maxHeartbeats 2000000 in
theorem refMay_bad1 (c : Cfg) (m : Msg) (w : World) (hok : okC c = true) (hb : ¬ ((1 ≤ m.kd ∧ m.kd ≤ 11) ∧ 0 ≤ m.ln ∧ m.ln < c.li)) :
    Calls Try.prog 23 #[cv c, mv m] w fun e w' => e = .returned (.bool false) ∧ Below w.heap.size w w' := by
  have h0 := chk_ok c hok
  have KK := K2.box w (ccells c) (mcells m) 24 37
  have HH := Lib.hid hok
  clear hok
  rcases (show m.kd < 1 ∨ (1 ≤ m.kd ∧ 11 < m.kd) ∨ (1 ≤ m.kd ∧ m.kd ≤ 11 ∧ m.ln < 0) ∨ (1 ≤ m.kd ∧ m.kd ≤ 11 ∧ 0 ≤ m.ln ∧ c.li ≤ m.ln) by omega) with hx | ⟨x1, x2⟩ | ⟨x1, x2, x3⟩ | ⟨x1, x2, x3, x4⟩
  all_goals
    clear hb
    go_enter Try.func23, Try.ntmps23
    go_wp2_with (fail)
    refine (refCheck_any c _).mono ?_
    rintro e w1 ⟨rfl, hb1⟩
    have K1 := KK.step hb1
    have ha := K1.a; have hb := K1.b
    clear hb1 KK
    go_wp2
    all_goals try (exfalso; omega)
    all_goals go_ret
    all_goals exact ⟨rfl, K1.below⟩

/-- May, the document's. -/
theorem refMay_any (c : Cfg) (m : Msg) (w : World) :
    Calls Try.prog 23 #[cv c, mv m] w fun e w' => e = .returned (.bool (mayM c m)) ∧ Below w.heap.size w w' := by
  rcases Bool.eq_false_or_eq_true (okC c) with hok | hok
  · by_cases hb : (1 ≤ m.kd ∧ m.kd ≤ 11) ∧ 0 ≤ m.ln ∧ m.ln < c.li
    · have hl := isin_yes hb.2.1 hb.2.2
      rcases kinds (isKind_yes hb.1.1 hb.1.2) with h | h | h | h | h | h | h | h | h | h | h
      · exact refMay_all_1 c m w hok hl h
      · exact refMay_all_2 c m w hok hl h
      · exact refMay_all_3 c m w hok hl h
      · exact refMay_all_4 c m w hok hl h
      · exact refMay_all_5 c m w hok hl h
      · exact refMay_all_6 c m w hok hl h
      · exact refMay_all_7 c m w hok hl h
      · exact refMay_all_8 c m w hok hl h
      · exact refMay_all_9 c m w hok hl h
      · exact refMay_all_10 c m w hok hl h
      · exact refMay_all_11 c m w hok hl h
    · rw [show mayM c m = false by
        rcases Bool.eq_false_or_eq_true (mayM c m) with h | h
        · obtain ⟨_, h1, h2, _, _⟩ := may_all h
          exact absurd ⟨isKind_of h2, isin_of h1⟩ hb
        · exact h]
      exact refMay_bad1 c m w hok hb
  · rw [may_no1 hok]
    exact refMay_bad0 c m w hok

end Go.Proofs.Ytdggjbaapnkcgaa
