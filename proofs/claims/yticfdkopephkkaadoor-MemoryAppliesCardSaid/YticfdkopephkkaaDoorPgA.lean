/-
  What May does, the program's and the document's: one contract each.
-/
import Derived.Test.YticfdkopephkkaaDoorPgM
import Derived.Test.YticfdkopephkkaaDoorShapeA
namespace Go.Proofs.YticfdkopephkkaaDoor
open Go Go.RowKit

abbrev ov (x : Op) : Value := .agg #[.int .i64 x.k, .int .i64 x.a, .int .i64 x.v]


/-- The numbers are such as may be. -/
def rngB (x : Op) : Bool := decide (0 ≤ x.a ∧ x.a ≤ 8191 ∧ -2147483648 ≤ x.v ∧ x.v ≤ 2147483647)
theorem may_rng {x : Op} (h : rngB x = false) : mayB x = false := by
  unfold rngB at h
  unfold mayB
  simp only [decide_eq_false_iff_not] at *
  exact fun h' => h ⟨h'.1, h'.2.1, h'.2.2.1, h'.2.2.2.1⟩
theorem may_of {x : Op} (h : rngB x = true) : mayB x = decide (x.k = 2 ∨ x.k = 3 ∨ (x.k = 1 ∧ x.v = 0) ∨ (x.k = 4 ∧ x.a = 0 ∧ x.v = 0)) := by
  unfold rngB at h
  unfold mayB
  simp only [decide_eq_true_eq] at h
  obtain ⟨h0, h1, h2, h3⟩ := h
  simp [h0, h1, h2, h3]

set_option maxHeartbeats 1000000 in
theorem may_any (x : Op) (w : World) :
    Calls Tryd.prog 11 #[ov x] w fun e w' => e = .returned (.bool (mayB x)) ∧ Below w.heap.size w w' := by
  obtain ⟨k, a, v⟩ := x
  go_enter Tryd.func11, Tryd.ntmps11
  go_wp2
  all_goals
    go_ret
    refine ⟨ret_bool ?_, (Below.refl _ _).alloc (Nat.le_refl _) _⟩
    rw [Bool.eq_iff_iff]
    simp [mayB] at *
    omega

end Go.Proofs.YticfdkopephkkaaDoor
