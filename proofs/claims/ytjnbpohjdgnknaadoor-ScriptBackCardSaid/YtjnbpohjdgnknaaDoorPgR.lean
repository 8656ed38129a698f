/-
  What the document's own answers of layer 3 are, one contract each: number, Text, all, Print.
-/
import Derived.Test.YtjnbpohjdgnknaaDoorPgI
import Derived.Lib.SmallJoins
import Derived.Deep.QuietTactic
import Derived.BigQuiet
namespace Go.Proofs.YtjnbpohjdgnknaaDoor
open Go Go.RowKit

theorem str_eq {b : ByteArray} {l : List UInt8} (h : b.data.toList = l) : Value.string b = .string ⟨l.toArray⟩ := by
  subst h
  rfl
theorem ten_cut (d : Nat) (h : d < 10) : ((⟨#[48, 49, 50, 51, 52, 53, 54, 55, 56, 57]⟩ : ByteArray).extract d (d + 1)).data.toList = [UInt8.ofNat (48 + d)] := by
  rcases (show d = 0 ∨ d = 1 ∨ d = 2 ∨ d = 3 ∨ d = 4 ∨ d = 5 ∨ d = 6 ∨ d = 7 ∨ d = 8 ∨ d = 9 by omega) with rfl | rfl | rfl | rfl | rfl | rfl | rfl | rfl | rfl | rfl <;> decide +kernel

/-- The digits that are still to come, and those that are there. -/
def NumRel (N : Nat) (n s : Value) : Prop := ∃ (m : Nat) (b : ByteArray), m ≤ N ∧ n = .int .i64 m ∧ s = .string b ∧ Lib.decDigits N = Lib.decDigits m ++ b.data.toList

set_option maxHeartbeats 1000000 in
theorem number_pos (N : Nat) (w : World) (hN : N ≤ 9223372036854775807) :
    Calls Tryd.prog 53 #[.int .i64 N] w fun e w' => e = .returned (.string ⟨(Lib.decDigits N).toArray⟩) ∧ w = w' := by
  have h0 : (0 : Int) ≤ N := by omega
  go_enter Tryd.func53, Tryd.ntmps53
  go_wp2
  go_loop [0, 3] (fun n s => NumRel N n s) (fun n _ => (intOf n).toNat)
  case atStart => exact ⟨N, ⟨#[]⟩, Nat.le_refl _, rfl, rfl, by simp⟩
  case round =>
    obtain ⟨m, b, hm, rfl, rfl, hd⟩ := hrel
    have hz : b.size ≤ 20 := by
      have h1 := congrArg List.length hd
      rw [List.length_append] at h1
      have h2 := digs_le N (by omega)
      have h3 : b.data.toList.length = b.size := rfl
      omega
    have HC := Lib.hid (ten_cut (m % 10) (by omega))
    have HD := Lib.hid hd
    clear hd
    by_cases h10 : m < 10
    · have t : ((m : Int) / 10 == 0) = true := by simp; omega
      go_wp2
      go_ret
      refine ⟨congrArg Ending.returned (str_eq ?_), rfl⟩
      rw [Joins.data_append, HC.out, HD.out, dec_small h10, Nat.mod_eq_of_lt h10]
    · have t : ((m : Int) / 10 == 0) = false := by simp; omega
      go_wp2
      go_round
      case rel => exact ⟨m / 10, _, by omega, by go_num, rfl, by rw [Joins.data_append, HC.out, HD.out, dec_big h10]; simp⟩
      case measure => simp [intOf]; omega

theorem number_core (n : Int) (w : World) (h0 : n < 0) (h1 : -9223372036854775807 ≤ n) (H : Calls Tryd.prog 53 #[.int .i64 (-n)] w fun e w' => e = .returned (.string ⟨(Lib.decDigits n.natAbs).toArray⟩) ∧ w = w') :
    Calls Tryd.prog 53 #[.int .i64 n] w fun e w' => e = .returned (.string ⟨(Lib.itoa n).toArray⟩) ∧ w = w' := by
  have HH := Lib.hid H
  have hl := digs_le n.natAbs (by omega)
  have HI := Lib.hid (itoa_below h0)
  clear H
  generalize Lib.decDigits n.natAbs = ds at *
  have es : (⟨ds.toArray⟩ : ByteArray).size = ds.length := by simp [ByteArray.size]
  go_enter Tryd.func53, Tryd.ntmps53
  go_wp2_with (go_at_call 53; refine HH.out.mono ?_; rintro e w' ⟨rfl, rfl⟩)
  go_ret
  refine ⟨congrArg Ending.returned (str_eq ?_), rfl⟩
  rw [Joins.data_append, HI.out]
  rfl

/-- number: a number as digits. -/
theorem number_any (n : Int) (w : World) (h0 : -9223372036854775807 ≤ n) (h1 : n ≤ 9223372036854775807) :
    Calls Tryd.prog 53 #[.int .i64 n] w fun e w' => e = .returned (.string ⟨(Lib.itoa n).toArray⟩) ∧ w = w' := by
  by_cases h : n < 0
  · refine number_core n w h h0 ?_
    have e : -n = (n.natAbs : Int) := by omega
    rw [e]
    exact number_pos n.natAbs w (by omega)
  · have e : n = (n.toNat : Int) := by omega
    rw [itoa_pos (by omega)]
    have := number_pos n.toNat w (by omega)
    rwa [← e] at this

theorem number_q (n : Int) (w : World) (h0 : -9223372036854775807 ≤ n) (h1 : n ≤ 9223372036854775807) :
    Calls Tryd.prog 53 #[.int .i64 n] w fun e w' => e = .returned (.string ⟨(Lib.itoa n).toArray⟩) ∧ w' = w := (number_any n w h0 h1).mono fun _ _ ⟨he, hw⟩ => ⟨he, hw.symm⟩

set_option maxHeartbeats 1000000 in
/-- Text: an operation's. -/
theorem refText_any (x : Op) (w : World) (hm : mayB x = true) :
    Calls Tryd.prog 48 #[ov x] w fun e w' => e = .returned (.string ⟨(txt x).toArray⟩) ∧ Below w.heap.size w w' := by
  obtain ⟨m0, m1, m2, m3, mk⟩ := may_iff.1 hm
  have la := itoa_len4 m0 m1
  have lv := itoa_len m2 (by omega)
  clear hm
  by_cases h4 : x.k = 4
  · have t4 : (x.k == 4) = true := by simpa using h4
    have HE := Lib.hid (txt_4 h4)
    clear h4 mk
    go_enter Tryd.func48, Tryd.ntmps48
    go_wp2
    go_ret
    exact ⟨congrArg Ending.returned (str_eq (by rw [HE.out])), (Below.refl _ _).alloc (Nat.le_refl _) _⟩
  · have t4 : (x.k == 4) = false := by simpa using h4
    by_cases h1 : x.k = 1
    · have t1 : (x.k == 1) = true := by simpa using h1
      have HE := Lib.hid (txt_1 h1)
      clear h4 h1 mk
      go_enter Tryd.func48, Tryd.ntmps48
      go_wp2_with (go_at_call 53; refine (number_any _ _ (by omega) (by omega)).mono ?_; rintro e w' ⟨rfl, rfl⟩)
      go_ret
      exact ⟨congrArg Ending.returned (str_eq (by rw [Joins.data_append, HE.out]; rfl)), (Below.refl _ _).alloc (Nat.le_refl _) _⟩
    · have t1 : (x.k == 1) = false := by simpa using h1
      by_cases h3 : x.k = 3
      · have t3 : (x.k == 3) = true := by simpa using h3
        have HE := Lib.hid (txt_3 h3)
        clear h4 h1 h3 mk
        go_enter Tryd.func48, Tryd.ntmps48
        go_wp2
        go_quiet ((go_at_call 53; exact Calls.quiet_of_same (number_q _ _ (by omega) (by omega))))
        go_wp2
        go_ret
        exact ⟨congrArg Ending.returned (str_eq (by rw [Joins.data_append, Joins.data_append, Joins.data_append, HE.out]; simp)), below_drewN ((Below.refl _ _).alloc (Nat.le_refl _) _) _⟩
      · have t3 : (x.k == 3) = false := by simpa using h3
        have HE := Lib.hid (txt_2 (x := x) (by omega))
        clear h4 h1 h3 mk
        go_enter Tryd.func48, Tryd.ntmps48
        go_wp2
        go_quiet ((go_at_call 53; exact Calls.quiet_of_same (number_q _ _ (by omega) (by omega))))
        go_wp2
        go_ret
        exact ⟨congrArg Ending.returned (str_eq (by rw [Joins.data_append, Joins.data_append, Joins.data_append, HE.out]; simp)), below_drewN ((Below.refl _ _).alloc (Nat.le_refl _) _) _⟩

end Go.Proofs.YtjnbpohjdgnknaaDoor
