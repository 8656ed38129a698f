/-
  What areWords does.
-/
import Derived.Test.YtdggjbaapnkcgaaMsD
namespace Go.Proofs.Ytdggjbaapnkcgaa
open Go Go.RowKit Go.Sort

/-! The words. -/
theorem words_at (m : Msg) (k : Nat) (hk : k < 8) (w : World) :
    (Instr.index 35 (.agg #[.int .i64 m.w0, .int .i64 m.w1, .int .i64 m.w2, .int .i64 m.w3, .int .i64 m.w4, .int .i64 m.w5, .int .i64 m.w6, .int .i64 m.w7]) (.int .i64 k)).run Try.prog w = .ok (.int .i64 (m.wd k)) w := by
  rcases (show k = 0 ∨ k = 1 ∨ k = 2 ∨ k = 3 ∨ k = 4 ∨ k = 5 ∨ k = 6 ∨ k = 7 by omega) with rfl | rfl | rfl | rfl | rfl | rfl | rfl | rfl
  all_goals kernel_rfl

set_option maxHeartbeats 1000000 in
theorem areWords_any (m : Msg) (n : Int) (w : World) :
    Calls Try.prog 44 #[.agg #[.int .i64 m.w0, .int .i64 m.w1, .int .i64 m.w2, .int .i64 m.w3, .int .i64 m.w4, .int .i64 m.w5, .int .i64 m.w6, .int .i64 m.w7], .int .i64 n] w fun e w' => e = .returned (.bool (wordsB m n)) ∧ Below w.heap.size w w' := by
  go_enter Try.func44, Try.ntmps44
  go_wp2
  go_loop [8] (fun i => ∃ k : Nat, k ≤ 8 ∧ i = .int .i64 k ∧ Hid (∀ j, j < k → wordB n m j = true)) (fun i => 8 - (intOf i).toNat)
  case atStart => exact ⟨0, by omega, rfl, Lib.hid (fun j hj => by omega)⟩
  case round =>
    obtain ⟨k, hk, rfl, HJ⟩ := hrel
    by_cases hlt : k < 8
    · have hi := fun w => words_at m k hlt w
      rcases Bool.eq_false_or_eq_true (wordB n m k) with hw | hw
      · have HK : Hid (∀ j, j < k + 1 → wordB n m j = true) := Lib.hid (fun j hj => by
          by_cases e : j = k
          · subst e; exact hw
          · exact HJ.out j (by omega))
        have hx := hw
        unfold wordB at hx
        simp at hx
        obtain ⟨h1, h2, h3⟩ := hx
        generalize m.wd k = x at *
        clear hw
        rcases (show ((x != 0) = false ∧ x = 0) ∨ ((x != 0) = true ∧ x ≠ 0) by by_cases hz : x = 0 <;> simp [hz]) with ⟨hz, hz'⟩ | ⟨hz, hz'⟩
        all_goals go_wp2
        all_goals try (exfalso; omega)
        all_goals (go_round <;> first | exact ⟨k + 1, by omega, by go_num, HK⟩ | (simp [intOf]; done) | (simp [intOf]; omega))
      · have HK := Lib.hid (words_not k hlt hw)
        have hx := hw
        unfold wordB at hx
        simp at hx
        generalize m.wd k = x at *
        have hx : x < -2147483648 ∨ 2147483647 < x ∨ (x ≠ 0 ∧ n ≤ (k : Int)) := by
          by_cases a : -2147483648 ≤ x
          · by_cases b : x ≤ 2147483647
            · have := hx a b
              omega
            · omega
          · omega
        clear hw
        rcases (show ((x != 0) = false ∧ x = 0) ∨ ((x != 0) = true ∧ x ≠ 0) by by_cases hz : x = 0 <;> simp [hz]) with ⟨hz, hz'⟩ | ⟨hz, hz'⟩
        all_goals go_wp2
        all_goals try (exfalso; omega)
        all_goals go_ret
        all_goals exact ⟨ret_bool HK.out.symm, (Below.refl _ _).alloc (Nat.le_refl _) _⟩
    · have HY := Lib.hid (words_yes (m := m) (n := n) (fun j hj => HJ.out j (by omega)))
      go_wp2
      go_ret
      exact ⟨ret_bool HY.out.symm, (Below.refl _ _).alloc (Nat.le_refl _) _⟩

end Go.Proofs.Ytdggjbaapnkcgaa
