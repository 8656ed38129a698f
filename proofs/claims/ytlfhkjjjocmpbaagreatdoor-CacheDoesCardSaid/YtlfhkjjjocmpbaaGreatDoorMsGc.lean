/-
  What the document's own Home and core are.
-/
import Derived.Test.YtlfhkjjjocmpbaaGreatDoorLayMs
import Derived.Test.YtlfhkjjjocmpbaaGreatDoorRef1
namespace Go.Proofs.YtlfhkjjjocmpbaaGreatDoor
open Go Go.RowKit Go.Sort

theorem refCore_any (c : Cfg) (n : Int) (w : World) :
    Calls Tryz.prog 127 #[cv c, .int .i64 n] w fun e w' => e = .returned (.bool (isin n c.co)) ∧ Below w.heap.size w w' := by
  go_enter Tryz.func127, Tryz.ntmps127
  go_wp2
  · have h : 0 ≤ n := by assumption
    go_ret
    exact ⟨ret_bool (by simp [isin, h]), (Below.refl _ _).alloc (Nat.le_refl _) _⟩
  · have h : n < 0 := by assumption
    go_ret
    exact ⟨ret_bool (by simp [isin]; omega), (Below.refl _ _).alloc (Nat.le_refl _) _⟩

theorem refHome_any (k : Int) (w : World) :
    Calls Tryz.prog 80 #[.int .i64 k] w fun e w' => e = .returned (.bool (toHome k)) ∧ Below w.heap.size w w' := by
  go_enter Tryz.func80, Tryz.ntmps80
  go_wp2
  all_goals go_ret
  all_goals exact ⟨ret_bool (by simp_all [toHome, Bool.or_assoc]), Below.refl _ _⟩

end Go.Proofs.YtlfhkjjjocmpbaaGreatDoor
