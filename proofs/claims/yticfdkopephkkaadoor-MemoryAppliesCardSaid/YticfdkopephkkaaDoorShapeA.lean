/-
  What the smallest functions of package shape do, one contract each: isPower, holds.
-/
import Derived.Test.YticfdkopephkkaaDoorRows
import Derived.Test.YticfdkopephkkaaDoorMath
import Derived.WalkKit
import Derived.WalkSpells
import Derived.WalkLawsBesides
import Derived.Lib.Hide
namespace Go.Proofs.YticfdkopephkkaaDoor
open Go Go.RowKit

theorem ret_bool {a b : Bool} (h : a = b) : Ending.returned (.bool a) = .returned (.bool b) := by rw [h]
theorem ret_int {k : IntKind} {a b : Int} (h : a = b) : Ending.returned (.int k a) = .returned (.int k b) := by rw [h]

theorem ret_pair {a b : Int} {c d : Bool} (h : a = b) (h' : c = d) : Ending.returned (.tuple #[.int .i64 a, .bool c]) = .returned (.tuple #[.int .i64 b, .bool d]) := by rw [h, h']

theorem bstep {w w1 w2 : World} (h : Below w.heap.size w w1) (h2 : Below w1.heap.size w1 w2) : Below w.heap.size w w2 := h.trans (h2.mono h.size)
theorem bbox {w w1 : World} {o : Obj} (h : Below (w.alloc o).heap.size (w.alloc o) w1) : Below w.heap.size w w1 := ((Below.refl _ _).alloc (Nat.le_refl _) _).trans (h.mono (by simp))
theorem zbox {w w1 : World} {o : Obj} (h : Below (w.alloc o).heap.size (w.alloc o) w1) : w.heap.size < w1.heap.size := by have := h.size; simp at this; omega
theorem below_drewN {B : Nat} {w w' : World} (h : Below B w w') (n : Nat) : Below B w (w'.drewN n) := ⟨h.os, h.tape, h.output, h.size, h.block⟩

/-- The call's own first block still holds these cells, and nothing that was there has changed. -/
def Kp (w : World) (L : Array Value) (w1 : World) : Prop := (∀ o, w1.cell? ⟨w.heap.size, o, none⟩ = L[o]?) ∧ w.heap.size < w1.heap.size ∧ Below w.heap.size w w1
theorem Kp.box (w : World) (L : Array Value) (t : TypeId) : Kp w L (w.alloc (.cells L t)) :=
  ⟨fun o => World.cell?_alloc_mark w _ t (0, 0) o, by simp, (Below.refl _ _).alloc (Nat.le_refl _) _⟩
theorem Kp.step {w w1 w2 : World} {L : Array Value} (h : Kp w L w1) (hb : Below w1.heap.size w1 w2) : Kp w L w2 :=
  ⟨fun o => (hb.cell (p := ⟨w.heap.size, o, none⟩) h.2.1).trans (h.1 o), Nat.lt_of_lt_of_le h.2.1 hb.size, bstep h.2.2 hb⟩
theorem own_below {w w' : World} {base e sz n : Nat} {v : Value} {xs : List Value} (h : w.ownsRow base e sz v n xs) (hb : Below w.heap.size w w') : w'.ownsRow base e sz v n xs := by
  refine ⟨h.1, ?_⟩
  rcases h.2 with hn | ⟨g, cap, cur, rfl, hb', hgg, rest⟩
  · exact .inl hn
  · exact .inr ⟨g, cap, cur, rfl, hb', (hb.block g (Array.getElem?_eq_some_iff.1 hgg).1).trans hgg, rest⟩

/-- isPower. -/
theorem isPower_any (n : Int) (w : World) (h1 : n ≤ 9223372036854775807) :
    Calls Tryd.prog 28 #[.int .i64 n] w fun e w' => e = .returned (.bool (isPow n)) ∧ w = w' := by
  by_cases h0 : 0 < n
  · have hx := isPow_and n h0 h1
    go_enter Tryd.func28, Tryd.ntmps28
    go_wp2
    go_ret
    exact ⟨rfl, rfl⟩
  · go_enter Tryd.func28, Tryd.ntmps28
    go_wp2
    go_ret
    exact ⟨ret_bool (isPow_neg n (by omega)).symm, rfl⟩

theorem holds_any (s lo hi : Int) (p : Bool) (w : World) (h1 : s ≤ 9223372036854775807) :
    Calls Tryd.prog 23 #[.agg #[.int .i64 s, .int .i64 lo, .int .i64 hi, .bool p]] w fun e w' => e = .returned (.bool (bndB s lo hi p)) ∧ Below w.heap.size w w' := by
  go_enter Tryd.func23, Tryd.ntmps23
  go_wp2_with (go_at_call 28; refine (isPower_any _ _ h1).mono ?_; rintro e w' ⟨rfl, rfl⟩)
  · have ha : lo ≤ s := by assumption
    have hb : s ≤ hi := by assumption
    have hc : p = true := by assumption
    go_ret
    exact ⟨ret_bool (by simp [bndB, ha, hb, hc]), (Below.refl _ _).alloc (Nat.le_refl _) _⟩
  · have ha : lo ≤ s := by assumption
    have hb : s ≤ hi := by assumption
    have hc : ¬ p = true := by assumption
    go_ret
    exact ⟨ret_bool (by simp [bndB, ha, hb, hc]), (Below.refl _ _).alloc (Nat.le_refl _) _⟩
  · have ha : lo ≤ s := by assumption
    have hb : hi < s := by assumption
    have hb' : ¬ s ≤ hi := by omega
    go_ret
    exact ⟨ret_bool (by simp [bndB, hb']), (Below.refl _ _).alloc (Nat.le_refl _) _⟩
  · have ha : s < lo := by assumption
    have ha' : ¬ lo ≤ s := by omega
    go_ret
    exact ⟨ret_bool (by simp [bndB, ha']), (Below.refl _ _).alloc (Nat.le_refl _) _⟩

end Go.Proofs.YticfdkopephkkaaDoor
