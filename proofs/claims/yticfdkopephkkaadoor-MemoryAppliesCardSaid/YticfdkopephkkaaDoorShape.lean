/-
  What package shape does of powers of two, one contract each: TrailingZeros, Power.
-/
import Derived.Test.YticfdkopephkkaaDoorShapeA
namespace Go.Proofs.YticfdkopephkkaaDoor
open Go Go.RowKit

/-- The de Bruijn table lies where the program's start laid it. -/
def Tab (w : World) : Prop := ∀ j, j < 64 → w.cell? ⟨1, j, none⟩ = some (.int .u8 (Lib.deBruijn64tab.getD j 0 : Nat))

theorem Tab.keeps {w w' : World} (h : Tab w) (h1 : 1 < w.heap.size) (hb : Below w.heap.size w w') : Tab w' := fun j hj => by
  rw [hb.cell (p := ⟨1, j, none⟩) h1]; exact h j hj

theorem tz64_core (k idx : Nat) (x : Int) (w : World) (hx0 : (x == 0) = false) (hk : k < 63)
    (key : IntKind.u64.wrap (bits BinOp.and IntKind.u64 x (IntKind.u64.wrap (-x)) * 285870213051353865) / 288230376151711744 = (idx : Int))
    (hi : idx < 64) (hcell : w.cell? ⟨1, idx, none⟩ = some (.int .u8 k)) :
    Calls Tryd.prog 35 #[.int .u64 x] w fun e w' => e = .returned (.int .i64 k) ∧ w = w' := by
  go_enter Tryd.func35, Tryd.ntmps35
  go_wp2_with (simp only [key])
  go_ret
  exact ⟨rfl, rfl⟩

theorem tz64_any (k : Nat) (w : World) (hk : k < 63) (hT : Tab w) :
    Calls Tryd.prog 35 #[.int .u64 ((2 : Int) ^ k)] w fun e w' => e = .returned (.int .i64 k) ∧ w = w' := by
  have hb := two_lt k hk
  have hc := hT (place k) (place_lt k hk)
  rw [place_at k hk] at hc
  exact tz64_core k (place k) _ w (by simp; omega) hk (place_key k hk) (place_lt k hk) hc

theorem tz_core (k : Nat) (x : Int) (w : World) (H : Calls Tryd.prog 35 #[.int .u64 x] w fun e w' => e = .returned (.int .i64 k) ∧ w = w') :
    Calls Tryd.prog 33 #[.int .u64 x] w fun e w' => e = .returned (.int .i64 k) ∧ w = w' := by
  have HH := Lib.hid H
  clear H
  go_enter Tryd.func33, Tryd.ntmps33
  go_wp2_with (go_at_call 35; refine HH.out.mono ?_; rintro e w' ⟨rfl, rfl⟩)
  go_ret
  exact ⟨rfl, rfl⟩

theorem power_core (k : Nat) (x : Int) (w : World) (hx : 0 < x) (hx1 : x ≤ 4611686018427387904) (hp : isPow x = true) (H : Calls Tryd.prog 33 #[.int .u64 x] w fun e w' => e = .returned (.int .i64 k) ∧ w = w') :
    Calls Tryd.prog 31 #[.int .i64 x] w fun e w' => e = .returned (.tuple #[.int .i64 k, .bool true]) ∧ w = w' := by
  have HH := Lib.hid H
  clear H
  go_enter Tryd.func31, Tryd.ntmps31
  go_wp2_with (first | (go_at_call 28; refine (isPower_any _ _ (by omega)).mono ?_; rintro e w' ⟨rfl, rfl⟩) | (go_at_call 33; refine HH.out.mono ?_; rintro e w' ⟨rfl, rfl⟩))
  go_ret2
  exact ⟨rfl, rfl⟩

/-- Power, the program's. -/
theorem power_any (n : Int) (w : World) (h1 : n ≤ 9223372036854775807) (hT : Tab w) :
    Calls Tryd.prog 31 #[.int .i64 n] w fun e w' => e = .returned (.tuple #[.int .i64 (lg n), .bool (isPow n)]) ∧ w = w' := by
  rcases Bool.eq_false_or_eq_true (isPow n) with h | h
  · obtain ⟨k, hk, rfl⟩ := (isPow_iff n).1 h
    have hb := two_lt k hk
    rw [lg_two k hk, h]
    exact power_core k _ w hb.1 hb.2 h (tz_core k _ w (tz64_any k w hk hT))
  · rw [lg_no n h, h]
    clear hT
    go_enter Tryd.func31, Tryd.ntmps31
    go_wp2_with (go_at_call 28; refine (isPower_any _ _ h1).mono ?_; rintro e w' ⟨rfl, rfl⟩)
    go_ret2
    exact ⟨rfl, rfl⟩

end Go.Proofs.YticfdkopephkkaaDoor
