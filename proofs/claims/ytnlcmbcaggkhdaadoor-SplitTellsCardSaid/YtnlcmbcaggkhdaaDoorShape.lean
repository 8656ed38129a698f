/-
  What the smallest functions of package shape do, one contract each: isPower, TrailingZeros, Power, holds.
-/
import Derived.Test.YtnlcmbcaggkhdaaDoorRows
import Derived.Test.YtnlcmbcaggkhdaaDoorMath
import Derived.WalkKit
import Derived.WalkSpells
import Derived.WalkLawsBesides
import Derived.Lib.Hide
namespace Go.Proofs.YtnlcmbcaggkhdaaDoor
open Go Go.RowKit

theorem ret_bool {a b : Bool} (h : a = b) : Ending.returned (.bool a) = .returned (.bool b) := by rw [h]
theorem ret_int {k : IntKind} {a b : Int} (h : a = b) : Ending.returned (.int k a) = .returned (.int k b) := by rw [h]

theorem ret_pair {a b : Int} {c d : Bool} (h : a = b) (h' : c = d) : Ending.returned (.tuple #[.int .i64 a, .bool c]) = .returned (.tuple #[.int .i64 b, .bool d]) := by rw [h, h']

/-- isPower. -/
theorem isPower_any (n : Int) (w : World) (h1 : n ≤ 9223372036854775807) :
    Calls Tryd.prog 34 #[.int .i64 n] w fun e w' => e = .returned (.bool (isPow n)) ∧ w = w' := by
  by_cases h0 : 0 < n
  · have hx := isPow_and n h0 h1
    go_enter Tryd.func34, Tryd.ntmps34
    go_wp2
    go_ret
    exact ⟨rfl, rfl⟩
  · go_enter Tryd.func34, Tryd.ntmps34
    go_wp2
    go_ret
    exact ⟨ret_bool (isPow_neg n (by omega)).symm, rfl⟩

/-- The de Bruijn table lies where the program's start laid it. -/
def Tab (w : World) : Prop := ∀ j, j < 64 → w.cell? ⟨1, j, none⟩ = some (.int .u8 (Lib.deBruijn64tab.getD j 0 : Nat))

theorem tz64_core (k idx : Nat) (x : Int) (w : World) (hx0 : (x == 0) = false) (hk : k < 63)
    (key : IntKind.u64.wrap (bits BinOp.and IntKind.u64 x (IntKind.u64.wrap (-x)) * 285870213051353865) / 288230376151711744 = (idx : Int))
    (hi : idx < 64) (hcell : w.cell? ⟨1, idx, none⟩ = some (.int .u8 k)) :
    Calls Tryd.prog 39 #[.int .u64 x] w fun e w' => e = .returned (.int .i64 k) ∧ w = w' := by
  go_enter Tryd.func39, Tryd.ntmps39
  go_wp2_with (simp only [key])
  go_ret
  exact ⟨rfl, rfl⟩

theorem tz64_any (k : Nat) (w : World) (hk : k < 63) (hT : Tab w) :
    Calls Tryd.prog 39 #[.int .u64 ((2 : Int) ^ k)] w fun e w' => e = .returned (.int .i64 k) ∧ w = w' := by
  have hb := two_lt k hk
  have hc := hT (place k) (place_lt k hk)
  rw [place_at k hk] at hc
  exact tz64_core k (place k) _ w (by simp; omega) hk (place_key k hk) (place_lt k hk) hc

theorem tz_core (k : Nat) (x : Int) (w : World) (H : Calls Tryd.prog 39 #[.int .u64 x] w fun e w' => e = .returned (.int .i64 k) ∧ w = w') :
    Calls Tryd.prog 37 #[.int .u64 x] w fun e w' => e = .returned (.int .i64 k) ∧ w = w' := by
  have HH := Lib.hid H
  clear H
  go_enter Tryd.func37, Tryd.ntmps37
  go_wp2_with (go_at_call 39; refine HH.out.mono ?_; rintro e w' ⟨rfl, rfl⟩)
  go_ret
  exact ⟨rfl, rfl⟩

theorem power_core (k : Nat) (x : Int) (w : World) (hx : 0 < x) (hx1 : x ≤ 4611686018427387904) (hp : isPow x = true) (H : Calls Tryd.prog 37 #[.int .u64 x] w fun e w' => e = .returned (.int .i64 k) ∧ w = w') :
    Calls Tryd.prog 35 #[.int .i64 x] w fun e w' => e = .returned (.tuple #[.int .i64 k, .bool true]) ∧ w = w' := by
  have HH := Lib.hid H
  clear H
  go_enter Tryd.func35, Tryd.ntmps35
  go_wp2_with (first | (go_at_call 34; refine (isPower_any _ _ (by omega)).mono ?_; rintro e w' ⟨rfl, rfl⟩) | (go_at_call 37; refine HH.out.mono ?_; rintro e w' ⟨rfl, rfl⟩))
  go_ret2
  exact ⟨rfl, rfl⟩

/-- Power, the program's. -/
theorem power_any (n : Int) (w : World) (h1 : n ≤ 9223372036854775807) (hT : Tab w) :
    Calls Tryd.prog 35 #[.int .i64 n] w fun e w' => e = .returned (.tuple #[.int .i64 (lg n), .bool (isPow n)]) ∧ w = w' := by
  rcases Bool.eq_false_or_eq_true (isPow n) with h | h
  · obtain ⟨k, hk, rfl⟩ := (isPow_iff n).1 h
    have hb := two_lt k hk
    rw [lg_two k hk, h]
    exact power_core k _ w hb.1 hb.2 h (tz_core k _ w (tz64_any k w hk hT))
  · rw [lg_no n h, h]
    clear hT
    go_enter Tryd.func35, Tryd.ntmps35
    go_wp2_with (go_at_call 34; refine (isPower_any _ _ h1).mono ?_; rintro e w' ⟨rfl, rfl⟩)
    go_ret2
    exact ⟨rfl, rfl⟩

theorem holds_any (s lo hi : Int) (p : Bool) (w : World) (h1 : s ≤ 9223372036854775807) :
    Calls Tryd.prog 27 #[.agg #[.int .i64 s, .int .i64 lo, .int .i64 hi, .bool p]] w fun e w' => e = .returned (.bool (bndB s lo hi p)) ∧ Below w.heap.size w w' := by
  go_enter Tryd.func27, Tryd.ntmps27
  go_wp2_with (go_at_call 34; refine (isPower_any _ _ h1).mono ?_; rintro e w' ⟨rfl, rfl⟩)
  · have ha : lo ≤ s := by assumption
    have hb : s ≤ hi := by assumption
    have hc : p = true := by assumption
    go_ret
    exact ⟨ret_bool (by simp [bndB, ha, hb, hc]), (Below.refl _ _).alloc (Nat.le_refl _) _⟩
  · have ha : lo ≤ s := by assumption
    have hb : s ≤ hi := by assumption
    have hc : ¬ p = true := by assumption
    go_ret
    exact ⟨ret_bool (by simp [bndB, ha, hb, hc]), (Below.refl _ _).alloc (Nat.le_refl _) _⟩
  · have ha : lo ≤ s := by assumption
    have hb : hi < s := by assumption
    have hb' : ¬ s ≤ hi := by omega
    go_ret
    exact ⟨ret_bool (by simp [bndB, hb']), (Below.refl _ _).alloc (Nat.le_refl _) _⟩
  · have ha : s < lo := by assumption
    have ha' : ¬ lo ≤ s := by omega
    go_ret
    exact ⟨ret_bool (by simp [bndB, ha']), (Below.refl _ _).alloc (Nat.le_refl _) _⟩

end Go.Proofs.YtnlcmbcaggkhdaaDoor
