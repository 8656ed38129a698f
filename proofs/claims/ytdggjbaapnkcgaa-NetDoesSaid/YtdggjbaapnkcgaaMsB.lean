/-
  From whom to whom a message goes: one contract each.
-/
import Derived.Test.YtdggjbaapnkcgaaMsA
namespace Go.Proofs.Ytdggjbaapnkcgaa
open Go Go.RowKit Go.Sort

/-- A line and a machine of which a home may be asked. -/
structure Hm (c : Cfg) (m : Msg) : Prop where
  l0 : 0 ≤ m.ln
  h1 : 1 ≤ c.ho
  h2 : c.ho ≤ 16

theorem cth_any (c : Cfg) (m : Msg) (w : World) (hm : Hm c m) :
    Calls Try.prog 69 #[cv c, mv m] w fun e w' => e = .returned (.bool (cth c m)) ∧ Below w.heap.size w w' := by
  obtain ⟨l0, h1, h2⟩ := hm
  have KK := K2.box w (ccells c) (mcells m) 24 37
  obtain ⟨hA, hB⟩ := KK.grown
  have HL := Lib.hid KK.below
  clear KK
  rcases Bool.eq_false_or_eq_true (isin m.fr c.co) with h | h
  · have H := Lib.hid h
    clear h
    go_enter Try.func69, Try.ntmps69
    go_wp2
    refine wp_region_quiet_below (by kernel_rfl) (by kernel_rfl) ?_
    repeat (go_big_quiet_step (first
      | (go_at_call 42; exact Calls.regrown_of (isOneOf_is H.out _))
      | (go_at_call 71; exact Calls.regrown_of (homeOf_any c _ _ l0 h1 h2))))
    refine wpQuiet_nil ?_
    rintro w2 ⟨pp, rfl⟩
    go_wp2
    go_ret
    exact ⟨ret_bool (by simp [cth, H.out]), bstep HL.out (below_regrown _ _ _)⟩
  · have H := Lib.hid h
    clear h
    go_enter Try.func69, Try.ntmps69
    go_wp2
    refine wp_region_quiet_below (by kernel_rfl) (by kernel_rfl) ?_
    repeat (go_big_quiet_step (first
      | (go_at_call 42; exact Calls.regrown_of (isOneOf_is H.out _))
      | (go_at_call 71; exact Calls.regrown_of (homeOf_any c _ _ l0 h1 h2))))
    refine wpQuiet_nil ?_
    rintro w2 ⟨pp, rfl⟩
    go_wp2
    go_ret
    exact ⟨ret_bool (by simp [cth, H.out]), bstep HL.out (below_regrown _ _ _)⟩

theorem htc_any (c : Cfg) (m : Msg) (w : World) (hm : Hm c m) :
    Calls Try.prog 76 #[cv c, mv m] w fun e w' => e = .returned (.bool (htc c m)) ∧ Below w.heap.size w w' := by
  obtain ⟨l0, h1, h2⟩ := hm
  have KK := K2.box w (ccells c) (mcells m) 24 37
  obtain ⟨hA, hB⟩ := KK.grown
  have HL := Lib.hid KK.below
  clear KK
  by_cases h : m.fr = m.ln % c.ho
  · have h' : (m.fr == m.ln % c.ho) = true := by simpa using h
    clear h
    go_enter Try.func76, Try.ntmps76
    go_wp2
    refine wp_region_quiet_below (by kernel_rfl) (by kernel_rfl) ?_
    repeat (go_big_quiet_step (first
      | (go_at_call 42; exact Calls.regrown_of (isOneOf_is rfl _))
      | (go_at_call 71; exact Calls.regrown_of (homeOf_any c _ _ l0 h1 h2))))
    refine wpQuiet_nil ?_
    rintro w2 ⟨pp, rfl⟩
    go_wp2
    go_ret
    exact ⟨ret_bool (by simp [htc, h']), bstep HL.out (below_regrown _ _ _)⟩
  · have h' : (m.fr == m.ln % c.ho) = false := by simpa using h
    clear h
    go_enter Try.func76, Try.ntmps76
    go_wp2
    refine wp_region_quiet_below (by kernel_rfl) (by kernel_rfl) ?_
    repeat (go_big_quiet_step (first
      | (go_at_call 42; exact Calls.regrown_of (isOneOf_is rfl _))
      | (go_at_call 71; exact Calls.regrown_of (homeOf_any c _ _ l0 h1 h2))))
    refine wpQuiet_nil ?_
    rintro w2 ⟨pp, rfl⟩
    go_wp2
    go_ret
    exact ⟨ret_bool (by simp [htc, h']), bstep HL.out (below_regrown _ _ _)⟩

theorem ctc_any (c : Cfg) (m : Msg) (w : World) :
    Calls Try.prog 85 #[cv c, mv m] w fun e w' => e = .returned (.bool (ctc c m)) ∧ Below w.heap.size w w' := by
  go_enter Try.func85, Try.ntmps85
  go_wp2_with (first
    | (go_at_call 42; refine (isOneOf_any _ _ _).mono ?_; rintro e w1 ⟨rfl, rfl⟩)
    | (go_at_call 77; refine (isAnother_any c _ _ _).mono ?_; rintro e w1 ⟨rfl, hb1⟩))
  · have h : isin m.to c.co = true := by assumption
    go_ret
    exact ⟨ret_bool (by simp [ctc, h]), bstep (((Below.refl _ _).alloc (Nat.le_refl _) _).alloc (by simp) _) hb1⟩
  · have h : ¬ isin m.to c.co = true := by assumption
    go_ret
    exact ⟨ret_bool (by simp [ctc, h]), ((Below.refl _ _).alloc (Nat.le_refl _) _).alloc (by simp) _⟩

theorem sender_any (c : Cfg) (m : Msg) (w : World) (hm : Hm c m) :
    Calls Try.prog 83 #[cv c, mv m] w fun e w' => e = .returned (.bool (sender c m)) ∧ Below w.heap.size w w' := by
  have HM := Lib.hid hm
  clear hm
  go_enter Try.func83, Try.ntmps83
  go_wp2_with (first
    | (go_at_call 76; refine (htc_any c m _ HM.out).mono ?_; rintro e w1 ⟨rfl, hb1⟩)
    | (go_at_call 85; refine (ctc_any c m _).mono ?_; rintro e w1 ⟨rfl, hb1⟩))
  all_goals go_ret
  all_goals first
    | exact ⟨ret_bool (by simp_all [sender]), bstep (((Below.refl _ _).alloc (Nat.le_refl _) _).alloc (by simp) _) hb1⟩
    | exact ⟨ret_bool (by simp_all [sender]), ((Below.refl _ _).alloc (Nat.le_refl _) _).alloc (by simp) _⟩

end Go.Proofs.Ytdggjbaapnkcgaa
