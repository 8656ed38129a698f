/-
  What follows of what a home does with a request, in plain words: sets that may be.
-/
import Derived.Test.YtpknfbgnclgpmaaGreatDoorLayTb
import Derived.Test.YtpknfbgnclgpmaaGreatDoorShUa
namespace Go.Proofs.YtpknfbgnclgpmaaGreatDoor.Sh
open Go Go.RowKit Go.Sort

theorem ins_mem (l : List Int) (i : Nat) (x y : Int) : (insAt l i x).contains y = (l.contains y || y == x) := by
  rw [Bool.eq_iff_iff, List.contains_iff_mem, Bool.or_eq_true, List.contains_iff_mem, beq_iff_eq]
  unfold insAt
  rw [List.mem_append, List.mem_cons]
  constructor
  · rintro (h | h | h)
    · exact .inl (List.mem_of_mem_take h)
    · exact .inr h
    · exact .inl (List.mem_of_mem_drop h)
  · rintro (h | h)
    · rw [← List.take_append_drop i l, List.mem_append] at h
      rcases h with h | h
      · exact .inl h
      · exact .inr (.inr h)
    · exact .inr (.inl h)
/-- A set with a core more. -/
theorem with_fine {s : St} {x : Int} (hm : s.may = true) (hx : hasB s.c x = true) : (withS s x).may = true ∧ (withS s x).c = s.c ∧ (∀ y, toldB s.l s.al y = true → toldB (withS s x).l (withS s x).al y = true) ∧ toldB (withS s x).l (withS s x).al x = true := by
  rcases Bool.eq_false_or_eq_true (toldB s.l s.al x) with ht | ht
  · have e : withS s x = s := by unfold withS; rw [if_pos ht]
    rw [e]
    exact ⟨hm, rfl, fun _ h => h, ht⟩
  by_cases hf : (s.l.length : Int) = s.m
  · have e : withS s x = ⟨s.c, s.m, [], true⟩ := by unfold withS; rw [if_neg (by rw [ht]; simp), if_pos hf]
    rw [e]
    obtain ⟨h1, h2, h3, h4, -⟩ := may_bounds hm
    refine ⟨?_, rfl, fun _ _ => rfl, rfl⟩
    simp [St.may, mayB, h1, h2, h3, h4, risesB]
  · have e : withS s x = ⟨s.c, s.m, insAt s.l (less s.l x) x, s.al⟩ := by unfold withS; rw [if_neg (by rw [ht]; simp), if_neg hf]
    rw [e]
    obtain ⟨h1, h2, h3, h4, -⟩ := may_bounds hm
    obtain ⟨hx0, hxc⟩ := hasB_iff.1 hx
    have hal : s.al = false := by cases h : s.al with | false => rfl | true => rw [h] at ht; simp [toldB] at ht
    have hnc : s.l.contains x = false := by rw [hal] at ht; simpa [toldB] using ht
    have hri := may_rises hm
    obtain ⟨cn, hcn⟩ : ∃ cn : Nat, s.c = cn := ⟨s.c.toNat, by omega⟩
    have hin := moreL_ins (by rw [← hcn]; exact hri) hx0 (by omega) hnc
    have hle : (s.l.length : Int) ≤ s.m := by
      have := hm
      simp only [St.may, mayB, hal, Bool.and_eq_true, decide_eq_true_eq, Bool.false_eq_true, if_false] at this
      exact this.1.2
    refine ⟨?_, rfl, fun y hy => ?_, ?_⟩
    · have hr : risesB s.c 0 (insAt s.l (less s.l x) x) = true := by
        rw [← hin, hcn]
        exact canon_rises _ _
      simp only [St.may, mayB, hal, Bool.and_eq_true, decide_eq_true_eq, Bool.false_eq_true, if_false]
      rw [insAt_len _ _ _ (less_le _ _)]
      refine ⟨⟨⟨⟨⟨h1, h2⟩, h3⟩, h4⟩, ?_⟩, hr⟩
      push_cast
      omega
    · rw [hal] at hy
      have : s.l.contains y = true := by simpa [toldB] using hy
      simp only [toldB, ins_mem, this, Bool.true_or, Bool.or_true]
    · simp only [toldB, ins_mem, beq_self_eq_true, Bool.or_true]
theorem add_fine {s : St} {x : Int} (hm : s.may = true) (hx : hasB s.c x = true) : (addS s x).1 = withS s x := by unfold addS; rw [if_pos hm, if_pos hx]
theorem new_fine {s : St} (hm : s.may = true) : (newS s.c s.m).1 = ⟨s.c, s.m, [], false⟩ ∧ (St.mk s.c s.m [] false).may = true := by
  obtain ⟨h1, h2, h3, h4, -⟩ := may_bounds hm
  have := may_new.2 ⟨h1, h2, h3, h4⟩
  exact ⟨by unfold newS; rw [if_pos this], this⟩

end Go.Proofs.YtpknfbgnclgpmaaGreatDoor.Sh
