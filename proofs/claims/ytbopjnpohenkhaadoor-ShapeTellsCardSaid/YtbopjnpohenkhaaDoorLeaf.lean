/-
  What the smallest functions of this seat do, one contract each: isPower, TrailingZeros, Power (the program's and the document's), in, power, holds, Len, Least.
-/
import Derived.Test.YtbopjnpohenkhaaDoorRows
import Derived.Test.YtbopjnpohenkhaaDoorMath
import Derived.WalkKit
import Derived.WalkSpells
import Derived.WalkLawsBesides
import Derived.Lib.Hide
namespace Go.Proofs.YtbopjnpohenkhaaDoor
open Go Go.RowKit

theorem ret_bool {a b : Bool} (h : a = b) : Ending.returned (.bool a) = .returned (.bool b) := by rw [h]
theorem ret_int {k : IntKind} {a b : Int} (h : a = b) : Ending.returned (.int k a) = .returned (.int k b) := by rw [h]

theorem ret_pair {a b : Int} {c d : Bool} (h : a = b) (h' : c = d) : Ending.returned (.tuple #[.int .i64 a, .bool c]) = .returned (.tuple #[.int .i64 b, .bool d]) := by rw [h, h']

/-- isPower. -/
theorem isPower_any (n : Int) (w : World) (h1 : n ≤ 9223372036854775807) :
    Calls Tryd.prog 15 #[.int .i64 n] w fun e w' => e = .returned (.bool (isPow n)) ∧ w = w' := by
  by_cases h0 : 0 < n
  · have hx := isPow_and n h0 h1
    go_enter Tryd.func15, Tryd.ntmps15
    go_wp2
    go_ret
    exact ⟨rfl, rfl⟩
  · go_enter Tryd.func15, Tryd.ntmps15
    go_wp2
    go_ret
    exact ⟨ret_bool (isPow_neg n (by omega)).symm, rfl⟩

theorem in_any (n lo hi : Int) (w : World) :
    Calls Tryd.prog 19 #[.int .i64 n, .int .i64 lo, .int .i64 hi] w fun e w' => e = .returned (.bool (inB n lo hi)) ∧ w = w' := by
  go_enter Tryd.func19, Tryd.ntmps19
  go_wp2
  · have h : lo ≤ n := by assumption
    go_ret
    exact ⟨ret_bool (by simp [inB, h]), rfl⟩
  · have h : n < lo := by assumption
    go_ret
    exact ⟨ret_bool (by simp [inB]; omega), rfl⟩

/-- The de Bruijn table lies where the program's start laid it. -/
def Tab (w : World) : Prop := ∀ j, j < 64 → w.cell? ⟨1, j, none⟩ = some (.int .u8 (Lib.deBruijn64tab.getD j 0 : Nat))

theorem tz64_core (k idx : Nat) (x : Int) (w : World) (hx0 : (x == 0) = false) (hk : k < 63)
    (key : IntKind.u64.wrap (bits BinOp.and IntKind.u64 x (IntKind.u64.wrap (-x)) * 285870213051353865) / 288230376151711744 = (idx : Int))
    (hi : idx < 64) (hcell : w.cell? ⟨1, idx, none⟩ = some (.int .u8 k)) :
    Calls Tryd.prog 23 #[.int .u64 x] w fun e w' => e = .returned (.int .i64 k) ∧ w = w' := by
  go_enter Tryd.func23, Tryd.ntmps23
  go_wp2_with (simp only [key])
  go_ret
  exact ⟨rfl, rfl⟩

theorem tz64_any (k : Nat) (w : World) (hk : k < 63) (hT : Tab w) :
    Calls Tryd.prog 23 #[.int .u64 ((2 : Int) ^ k)] w fun e w' => e = .returned (.int .i64 k) ∧ w = w' := by
  have hb := two_lt k hk
  have hc := hT (place k) (place_lt k hk)
  rw [place_at k hk] at hc
  exact tz64_core k (place k) _ w (by simp; omega) hk (place_key k hk) (place_lt k hk) hc

theorem tz_core (k : Nat) (x : Int) (w : World) (H : Calls Tryd.prog 23 #[.int .u64 x] w fun e w' => e = .returned (.int .i64 k) ∧ w = w') :
    Calls Tryd.prog 16 #[.int .u64 x] w fun e w' => e = .returned (.int .i64 k) ∧ w = w' := by
  have HH := Lib.hid H
  clear H
  go_enter Tryd.func16, Tryd.ntmps16
  go_wp2_with (go_at_call 23; refine HH.out.mono ?_; rintro e w' ⟨rfl, rfl⟩)
  go_ret
  exact ⟨rfl, rfl⟩

theorem power_core (k : Nat) (x : Int) (w : World) (hx : 0 < x) (hx1 : x ≤ 4611686018427387904) (hp : isPow x = true) (H : Calls Tryd.prog 16 #[.int .u64 x] w fun e w' => e = .returned (.int .i64 k) ∧ w = w') :
    Calls Tryd.prog 7 #[.int .i64 x] w fun e w' => e = .returned (.tuple #[.int .i64 k, .bool true]) ∧ w = w' := by
  have HH := Lib.hid H
  clear H
  go_enter Tryd.func7, Tryd.ntmps7
  go_wp2_with (first | (go_at_call 15; refine (isPower_any _ _ (by omega)).mono ?_; rintro e w' ⟨rfl, rfl⟩) | (go_at_call 16; refine HH.out.mono ?_; rintro e w' ⟨rfl, rfl⟩))
  go_ret2
  exact ⟨rfl, rfl⟩

/-- Power, the program's. -/
theorem power_any (n : Int) (w : World) (h1 : n ≤ 9223372036854775807) (hT : Tab w) :
    Calls Tryd.prog 7 #[.int .i64 n] w fun e w' => e = .returned (.tuple #[.int .i64 (lg n), .bool (isPow n)]) ∧ w = w' := by
  rcases Bool.eq_false_or_eq_true (isPow n) with h | h
  · obtain ⟨k, hk, rfl⟩ := (isPow_iff n).1 h
    have hb := two_lt k hk
    rw [lg_two k hk, h]
    exact power_core k _ w hb.1 hb.2 h (tz_core k _ w (tz64_any k w hk hT))
  · rw [lg_no n h, h]
    clear hT
    go_enter Tryd.func7, Tryd.ntmps7
    go_wp2_with (go_at_call 15; refine (isPower_any _ _ h1).mono ?_; rintro e w' ⟨rfl, rfl⟩)
    go_ret2
    exact ⟨rfl, rfl⟩

/-- Power, the document's. -/
theorem refPower_any (n : Int) (w : World) :
    Calls Tryd.prog 8 #[.int .i64 n] w fun e w' => e = .returned (.tuple #[.int .i64 (lg n), .bool (isPow n)]) ∧ w = w' := by
  go_enter Tryd.func8, Tryd.ntmps8
  go_wp2
  go_loop [4, 5] (fun p i => ∃ (k : Nat) (x : Int), k ≤ 63 ∧ i = .int .i64 k ∧ p = .int .i64 x ∧ (k < 63 → x = (2 : Int) ^ k) ∧ ∀ j, j < k → n ≠ (2 : Int) ^ j) (fun _ i => 63 - (intOf i).toNat)
  case atStart => exact ⟨0, 1, by omega, rfl, rfl, fun _ => rfl, fun j hj => by omega⟩
  case round =>
    obtain ⟨k, x, hk, rfl, rfl, hx, hn⟩ := hrel
    have HX := Lib.hid hx
    have HN := Lib.hid hn
    clear hx hn
    by_cases hlt : k < 63
    · have hb := two_lt k hlt
      have hxk := HX.out hlt
      by_cases he : x = n
      · have e1 : lg n = k := by rw [← he, hxk]; exact lg_two k hlt
        have e2 : isPow n = true := by rw [← he, hxk]; exact isPow_two k hlt
        have E1 := Lib.hid e1
        have E2 := Lib.hid e2
        have het : (x == n) = true := by simpa using he
        clear e1 e2 he hxk
        go_wp2
        go_ret2
        exact ⟨ret_pair (by rw [E1.out]) E2.out.symm, rfl⟩
      · have hef : (x == n) = false := by simpa using he
        have hx0 : 0 < x := by omega
        have hx1 : x ≤ 4611686018427387904 := by omega
        have HXK := Lib.hid hxk
        clear he hxk hb
        go_wp2
        go_round
        case rel => 
          refine ⟨k + 1, _, by omega, by go_num, rfl, fun h => ?_, fun j hj => ?_⟩
          · have hb2 := two_lt (k + 1) (by omega)
            rw [HXK.out]
            rw [Int.pow_succ] at hb2 ⊢
            unfold wrap64
            omega
          · by_cases hjk : j = k
            · subst hjk
              rw [← HXK.out]
              intro e
              rw [e] at hef
              simp at hef
            · exact HN.out j (by omega)
        case measure => simp [intOf]; omega
    · have hk63 : k = 63 := by omega
      have hno : isPow n = false := by
        rcases Bool.eq_false_or_eq_true (isPow n) with h | h
        · obtain ⟨j, hj, e⟩ := (isPow_iff n).1 h
          exact absurd e (HN.out j (by omega))
        · exact h
      have HNO := Lib.hid hno
      clear hno hk63
      go_wp2
      go_ret2
      exact ⟨ret_pair (by rw [lg_no n HNO.out]; rfl) HNO.out.symm, rfl⟩

theorem refPow_any (n hi : Int) (w : World) :
    Calls Tryd.prog 20 #[.int .i64 n, .int .i64 hi] w fun e w' => e = .returned (.bool (powB n hi)) ∧ w = w' := by
  go_enter Tryd.func20, Tryd.ntmps20
  go_wp2_with (go_at_call 8; refine (refPower_any _ _).mono ?_; rintro e w' ⟨rfl, rfl⟩)
  · have h : isPow n = true := by assumption
    go_ret
    exact ⟨ret_bool (by simp [powB, h]), rfl⟩
  · have h : ¬ isPow n = true := by assumption
    go_ret
    exact ⟨ret_bool (by simp [powB, h]), rfl⟩

theorem holds_any (s lo hi : Int) (p : Bool) (w : World) (h1 : s ≤ 9223372036854775807) :
    Calls Tryd.prog 18 #[.agg #[.int .i64 s, .int .i64 lo, .int .i64 hi, .bool p]] w fun e w' => e = .returned (.bool (bndB s lo hi p)) ∧ Below w.heap.size w w' := by
  go_enter Tryd.func18, Tryd.ntmps18
  go_wp2_with (go_at_call 15; refine (isPower_any _ _ h1).mono ?_; rintro e w' ⟨rfl, rfl⟩)
  · have ha : lo ≤ s := by assumption
    have hb : s ≤ hi := by assumption
    have hc : p = true := by assumption
    go_ret
    exact ⟨ret_bool (by simp [bndB, ha, hb, hc]), (Below.refl _ _).alloc (Nat.le_refl _) _⟩
  · have ha : lo ≤ s := by assumption
    have hb : s ≤ hi := by assumption
    have hc : ¬ p = true := by assumption
    go_ret
    exact ⟨ret_bool (by simp [bndB, ha, hb, hc]), (Below.refl _ _).alloc (Nat.le_refl _) _⟩
  · have ha : lo ≤ s := by assumption
    have hb : hi < s := by assumption
    have hb' : ¬ s ≤ hi := by omega
    go_ret
    exact ⟨ret_bool (by simp [bndB, hb']), (Below.refl _ _).alloc (Nat.le_refl _) _⟩
  · have ha : s < lo := by assumption
    have ha' : ¬ lo ≤ s := by omega
    go_ret
    exact ⟨ret_bool (by simp [bndB, ha']), (Below.refl _ _).alloc (Nat.le_refl _) _⟩

set_option maxRecDepth 100000 in
/-- Len64 and Len below 2^30. -/
theorem len64_any (x : Int) (w : World) (h0 : 0 ≤ x) (h1 : x < 1073741824) :
    Calls Tryd.prog 25 #[.int .u64 x] w fun e w' => e = .returned (.int .i64 (Lib.bitLen x.toNat)) ∧ w = w' := by
  have hs := lenTab_size
  go_enter Tryd.func25, Tryd.ntmps25
  go_wp2
  all_goals (go_ret; refine ⟨ret_int ?_, rfl⟩)
  · obtain ⟨e, l⟩ := lenTab_at (x / 65536 / 256) (by omega) (by omega) (by omega)
    have ex : (x / 65536 / 256).toNat = x.toNat / 16777216 := by omega
    exact lenSum 24 _ _ _ (by decide) l (by omega) (by rw [ex]; exact Lib.bitLen_shift24 _ (by omega) (by omega))
  · obtain ⟨e, l⟩ := lenTab_at (x / 65536) (by omega) (by omega) (by omega)
    have ex : (x / 65536).toNat = x.toNat / 65536 := by omega
    exact lenSum 16 _ _ _ (by decide) l (by omega) (by rw [ex]; exact Lib.bitLen_shift16 _ (by omega) (by omega))
  · obtain ⟨e, l⟩ := lenTab_at (x / 256) (by omega) (by omega) (by omega)
    have ex : (x / 256).toNat = x.toNat / 256 := by omega
    exact lenSum 8 _ _ _ (by decide) l (by omega) (by rw [ex]; exact Lib.bitLen_shift8 _ (by omega) (by omega))
  · obtain ⟨e, l⟩ := lenTab_at x (by omega) (by omega) (by omega)
    have := lenSum 0 _ _ _ (by decide) l (Int.ofNat.inj e) (Nat.zero_add _).symm
    simpa using this

theorem len_any (x : Int) (w : World) (h0 : 0 ≤ x) (h1 : x < 1073741824) :
    Calls Tryd.prog 21 #[.int .u64 x] w fun e w' => e = .returned (.int .i64 (Lib.bitLen x.toNat)) ∧ w = w' := by
  go_enter Tryd.func21, Tryd.ntmps21
  go_wp2_with (go_at_call 25; refine (len64_any _ _ h0 h1).mono ?_; rintro e w' ⟨rfl, rfl⟩)
  go_ret
  exact ⟨rfl, rfl⟩

/-- Least, the program's. -/
theorem least_any (n : Int) (w : World) (h0 : -9223372036854775808 ≤ n) (h1 : n ≤ 9223372036854775807) :
    Calls Tryd.prog 11 #[.int .i64 n] w fun e w' => e = .returned (.int .i64 (lst n)) ∧ w = w' := by
  by_cases ha : n < 1
  · go_enter Tryd.func11, Tryd.ntmps11
    go_wp2
    go_ret
    exact ⟨ret_int (by simp [lst, ha]), rfl⟩
  · by_cases hb : 1073741824 < n
    · go_enter Tryd.func11, Tryd.ntmps11
      go_wp2
      go_ret
      exact ⟨ret_int (by simp [lst, ha, hb]), rfl⟩
    · go_enter Tryd.func11, Tryd.ntmps11
      go_wp2_with (go_at_call 21; refine (len_any _ _ (by omega) (by omega)).mono ?_; rintro e w' ⟨rfl, rfl⟩)
      go_ret
      refine ⟨ret_int ?_, rfl⟩
      obtain ⟨k, hk, e, _, _⟩ := lst_two n (by omega) (by omega)
      have hl : Lib.bitLen (n.toNat - 1) ≤ 30 := Lib.bitLen_le _ 30 (by omega) (by omega)
      have e2 : lst n = (2 : Int) ^ Lib.bitLen (n.toNat - 1) := by
        unfold lst
        rw [if_neg (by omega), if_neg (by omega)]
        congr 2
        omega
      have hb2 := two_lt (Lib.bitLen (n.toNat - 1)) (by omega)
      rw [e2, Nat.min_eq_left (by omega)]
      unfold wrap64
      omega

/-- Least, the document's. -/
theorem refLeast_any (n : Int) (w : World) (h0 : -9223372036854775808 ≤ n) (h1 : n ≤ 9223372036854775807) :
    Calls Tryd.prog 12 #[.int .i64 n] w fun e w' => e = .returned (.int .i64 (lst n)) ∧ w = w' := by
  by_cases hb : 1073741824 < n
  · go_enter Tryd.func12, Tryd.ntmps12
    go_wp2
    go_ret
    exact ⟨ret_int (by unfold lst; rw [if_neg (by omega), if_pos hb]), rfl⟩
  · go_enter Tryd.func12, Tryd.ntmps12
    go_wp2
    go_loop [3] (fun p => ∃ (k : Nat) (x : Int), k ≤ 30 ∧ p = .int .i64 x ∧ Hid (x = (2 : Int) ^ k ∧ (k = 0 ∨ x < 2 * n)) ∧ 0 < x ∧ x ≤ 1073741824) (fun p => 1073741824 - (intOf p).toNat)
    case atStart => exact ⟨0, 1, by omega, rfl, Lib.hid ⟨rfl, .inl rfl⟩, by omega, by omega⟩
    case round =>
      obtain ⟨k, x, hk, rfl, HX, hx0, hx1⟩ := hrel
      by_cases hlt : x < n
      · go_wp2
        go_round
        case rel =>
          obtain ⟨e, _⟩ := HX.out
          have hk30 : k < 30 := by
            rcases Nat.lt_or_ge k 30 with h | h
            · exact h
            · have : (2 : Nat) ^ 30 ≤ 2 ^ k := Nat.pow_le_pow_right (by decide) h
              have e3 : ((2 ^ k : Nat) : Int) = (2 : Int) ^ k := by simp
              omega
          have h30 : (2 : Int) ^ (k + 1) ≤ 1073741824 := by
            have : (2 : Nat) ^ (k + 1) ≤ 2 ^ 30 := Nat.pow_le_pow_right (by decide) (by omega)
            have e3 : ((2 ^ (k + 1) : Nat) : Int) = (2 : Int) ^ (k + 1) := by simp
            omega
          rw [Int.pow_succ, ← e] at h30
          refine ⟨k + 1, _, by omega, rfl, Lib.hid ⟨?_, .inr ?_⟩, ?_, ?_⟩
          · rw [Int.pow_succ, ← e]; omega
          all_goals omega
        case measure => simp [intOf]; omega
      · go_wp2
        go_ret
        refine ⟨ret_int ?_, rfl⟩
        obtain ⟨e, hc⟩ := HX.out
        by_cases hn : n < 1
        · rcases hc with hc | hc
          · rw [e, hc]; unfold lst; rw [if_pos hn]; rfl
          · omega
        · rw [e]
          refine (lst_one n (by omega) (by omega) k (by omega) ?_).symm
          rcases hc with hc | hc
          · rw [hc]; omega
          · omega

end Go.Proofs.YtbopjnpohenkhaaDoor
