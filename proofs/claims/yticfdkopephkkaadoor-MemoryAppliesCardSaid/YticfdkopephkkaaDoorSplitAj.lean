/-
  What join and joined of package split do, one contract each.
-/
import Derived.Test.YticfdkopephkkaaDoorSplitA
namespace Go.Proofs.YticfdkopephkkaaDoor
open Go Go.RowKit

theorem join_any (n l s : Int) (w : World) (hs : isPow s = true) (hn : 0 ≤ n) (hl : 0 ≤ l) (hl2 : l < s) (hm : n * s ≤ 4611686018427387904) :
    Calls Tryd.prog 32 #[.agg #[.int .i64 (lg s)], .int .i64 n, .int .i64 l] w fun e w' => e = .returned (.int .i64 (n * s + l)) ∧ Below w.heap.size w w' := by
  obtain ⟨k, hk, rfl, e⟩ := pow_of hs
  rw [e]
  clear e hs
  go_enter Tryd.func32, Tryd.ntmps32
  go_wp2
  go_ret
  exact ⟨ret_int (both_bits n l k hk hn hl hl2 hm), (Below.refl _ _).alloc (Nat.le_refl _) _⟩

abbrev fJoin (s : Int) : Value := .func (.func 32) #[.agg #[.int .i64 (lg s)]] #[]

theorem joined_any (n : Int) (w : World) (h1 : n ≤ 9223372036854775807) (hT : Tb w) :
    Calls Tryd.prog 30 #[.int .i64 n] w fun e w' => e = .returned (fJoin n) ∧ Below w.heap.size w w' := by
  have HT := Lib.hid hT
  clear hT
  have hmf : ∀ (fn : Fn) (first cap : Array Value) (w : World), (Instr.makeFunc fn first cap).run Tryd.prog w = .ok (.func fn first cap) w := fun _ _ _ _ => rfl
  go_enter Tryd.func30, Tryd.ntmps30
  go_wp2_with (go_at_call 25; refine (cutBy_any _ _ h1 HT.out).mono ?_; rintro e w1 ⟨rfl, hb1⟩)
  go_ret
  exact ⟨rfl, hb1⟩

end Go.Proofs.YticfdkopephkkaaDoor
