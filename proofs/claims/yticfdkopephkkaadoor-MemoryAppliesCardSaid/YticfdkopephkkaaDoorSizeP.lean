/-
  What Size does, the program's.
-/
import Derived.Test.YticfdkopephkkaaDoorSize
namespace Go.Proofs.YticfdkopephkkaaDoor
open Go Go.RowKit

theorem size_any (c : Cfg) (w : World) (hc : c.fits) :
    Calls Tryd.prog 15 #[cv c] w fun e w' => e = .returned (.int .i64 (sz c)) ∧ Below w.heap.size w w' := by
  have HC := Lib.hid hc
  clear hc
  rcases Bool.eq_false_or_eq_true (okC c) with h | h
  · have h0 := chk_ok c h
    have hb := sz_bound c h
    have hm := mul_bound _ _ hb.1 hb.2
    have HS : Hid (sz c = c.wo * c.li) := Lib.hid (by simp [sz, h])
    clear h hb
    go_enter Tryd.func15, Tryd.ntmps15
    go_wp2_with (go_at_call 14; refine (check_any c _ HC.out).mono ?_; rintro e w1 ⟨rfl, hb1⟩; have hcl := fun o => hb1.cell (p := ⟨w.heap.size, o, none⟩) (by simp))
    go_ret
    exact ⟨ret_int HS.out.symm, ((Below.refl _ _).alloc (Nat.le_refl _) _).trans (hb1.mono (by simp))⟩
  · have h0 := chk_no c h
    have HS : Hid (sz c = 0) := Lib.hid (by simp [sz, h])
    clear h
    go_enter Tryd.func15, Tryd.ntmps15
    go_wp2_with (go_at_call 14; refine (check_any c _ HC.out).mono ?_; rintro e w1 ⟨rfl, hb1⟩)
    go_ret
    exact ⟨ret_int HS.out.symm, ((Below.refl _ _).alloc (Nat.le_refl _) _).trans (hb1.mono (by simp))⟩

end Go.Proofs.YticfdkopephkkaaDoor
