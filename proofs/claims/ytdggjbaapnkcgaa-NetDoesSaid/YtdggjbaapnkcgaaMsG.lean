/-
  What the document's own Net, Home and core are.
-/
import Derived.Test.YtdggjbaapnkcgaaMsA
import Derived.Test.YtdggjbaapnkcgaaRef1
namespace Go.Proofs.Ytdggjbaapnkcgaa
open Go Go.RowKit Go.Sort

theorem refCore_any (c : Cfg) (n : Int) (w : World) :
    Calls Try.prog 37 #[cv c, .int .i64 n] w fun e w' => e = .returned (.bool (isin n c.co)) ∧ Below w.heap.size w w' := by
  go_enter Try.func37, Try.ntmps37
  go_wp2
  · have h : 0 ≤ n := by assumption
    go_ret
    exact ⟨ret_bool (by simp [isin, h]), (Below.refl _ _).alloc (Nat.le_refl _) _⟩
  · have h : n < 0 := by assumption
    go_ret
    exact ⟨ret_bool (by simp [isin]; omega), (Below.refl _ _).alloc (Nat.le_refl _) _⟩

theorem refHome_any (k : Int) (w : World) :
    Calls Try.prog 36 #[.int .i64 k] w fun e w' => e = .returned (.bool (toHome k)) ∧ Below w.heap.size w w' := by
  go_enter Try.func36, Try.ntmps36
  go_wp2
  all_goals go_ret
  all_goals exact ⟨ret_bool (by simp_all [toHome, Bool.or_assoc]), Below.refl _ _⟩

set_option maxHeartbeats 4000000 in
theorem refNet_any (k : Int) (w : World) :
    Calls Try.prog 22 #[.int .i64 k] w fun e w' => e = .returned (.int .i64 (net k)) ∧ Below w.heap.size w w' := by
  rcases Bool.eq_false_or_eq_true (isKind k) with h | h
  · rcases kinds h with rfl | rfl | rfl | rfl | rfl | rfl | rfl | rfl | rfl | rfl | rfl
    all_goals
      go_enter Try.func22, Try.ntmps22
      go_wp2
      go_ret
      exact ⟨ret_int (by decide), (Below.refl _ _).alloc (Nat.le_refl _) _⟩
  · have HN : Hid (net k = -1) := Lib.hid (by unfold net; rw [h]; rfl)
    have hk : ¬ (1 ≤ k ∧ k ≤ 11) := fun h' => by rw [isKind_yes h'.1 h'.2] at h; cases h
    go_enter Try.func22, Try.ntmps22
    go_wp2
    all_goals try (exfalso; omega)
    all_goals go_ret
    all_goals exact ⟨ret_int HN.out.symm, Below.refl _ _⟩

end Go.Proofs.Ytdggjbaapnkcgaa
