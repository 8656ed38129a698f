/-
  The walk of ShapePowers: whatever two numbers it is given, it returns true, and writes nothing that was there.
-/
import Derived.Test.YtbopjnpohenkhaaDoorRef
namespace Go.Proofs.YtbopjnpohenkhaaDoor
open Go Go.RowKit

theorem odd_two : ∀ (i m r : Nat), 2 ^ i * (2 * r + 1) = 2 ^ m → r = 0 ∧ i = m
  | 0, 0, r, h => by simp at h; omega
  | 0, m + 1, r, h => by rw [Nat.pow_succ] at h; omega
  | i + 1, 0, r, h => by
    rw [Nat.pow_succ, Nat.mul_comm (2 ^ i) 2, Nat.mul_assoc] at h
    omega
  | i + 1, m + 1, r, h => by
    have : 2 ^ i * (2 * r + 1) = 2 ^ m := by
      rw [Nat.pow_succ, Nat.pow_succ, Nat.mul_comm (2 ^ i) 2, Nat.mul_assoc] at h
      omega
    have := odd_two i m r this
    omega

theorem pow_nat (n : Nat) (h : isPow (n : Int) = true) : ∃ k, k < 63 ∧ n = 2 ^ k := by
  obtain ⟨k, hk, e⟩ := (isPow_iff _).1 h
  refine ⟨k, hk, ?_⟩
  have e' : ((2 ^ k : Nat) : Int) = (2 : Int) ^ k := by simp
  omega

theorem pow_mul_nat (a b : Nat) (ha : 0 < a) (hb : 0 < b) (ha1 : a ≤ 1073741824) (hb1 : b ≤ 1073741824) :
    isPow ((a : Int) * (b : Int)) = (isPow a && isPow b) ∧ (isPow (a : Int) = true → isPow (b : Int) = true → lg ((a : Int) * (b : Int)) = lg a + lg b) := by
  obtain ⟨p, hp, hi⟩ := Lib.ctzFrom_spec 63 a ha (by omega)
  obtain ⟨q, hq, hj⟩ := Lib.ctzFrom_spec 63 b hb (by omega)
  generalize Lib.ctzFrom 63 a = i at hp hi
  generalize Lib.ctzFrom 63 b = j at hq hj
  have hmul : a * b = 2 ^ (i + j) * (2 * (2 * p * q + p + q) + 1) := by
    rw [hp, hq, Nat.pow_add, Nat.mul_mul_mul_comm]
    congr 1
    have e1 : (2 * p + 1) * (2 * q + 1) = 2 * (2 * (p * q)) + 2 * p + 2 * q + 1 := by
      rw [Nat.add_mul, Nat.mul_add, Nat.one_mul, Nat.mul_one, Nat.mul_assoc, Nat.mul_left_comm p 2 q]
      omega
    rw [e1, Nat.mul_assoc 2 p q]
    omega
  have e : (a : Int) * (b : Int) = ((a * b : Nat) : Int) := by simp
  have both : ∀ i j : Nat, a = 2 ^ i → b = 2 ^ j → isPow ((a * b : Nat) : Int) = true ∧ lg ((a * b : Nat) : Int) = i + j ∧ isPow (a : Int) = true ∧ isPow (b : Int) = true ∧ lg (a : Int) = i ∧ lg (b : Int) = j := by
    intro i j ea eb
    have hi : i ≤ 30 := by
      apply Nat.le_of_not_lt; intro h
      have : 2 ^ 31 ≤ 2 ^ i := Nat.pow_le_pow_right (by decide) h
      omega
    have hj : j ≤ 30 := by
      apply Nat.le_of_not_lt; intro h
      have : 2 ^ 31 ≤ 2 ^ j := Nat.pow_le_pow_right (by decide) h
      omega
    have e1 : ((a * b : Nat) : Int) = (2 : Int) ^ (i + j) := by rw [ea, eb, ← Nat.pow_add]; simp
    have e2 : (a : Int) = (2 : Int) ^ i := by rw [ea]; simp
    have e3 : (b : Int) = (2 : Int) ^ j := by rw [eb]; simp
    rw [e1, e2, e3]
    exact ⟨isPow_two _ (by omega), lg_two _ (by omega), isPow_two _ (by omega), isPow_two _ (by omega), lg_two _ (by omega), lg_two _ (by omega)⟩
  rw [e]
  constructor
  · rcases Bool.eq_false_or_eq_true (isPow ((a * b : Nat) : Int)) with h | h
    · obtain ⟨m, _, em⟩ := pow_nat _ h
      rw [hmul] at em
      obtain ⟨er, _⟩ := odd_two _ _ _ em
      have p0 : p = 0 := by omega
      have q0 : q = 0 := by omega
      rw [p0] at hp
      rw [q0] at hq
      obtain ⟨_, _, x, y, _, _⟩ := both i j (by simpa using hp) (by simpa using hq)
      rw [h, x, y]; rfl
    · rw [h]
      rcases Bool.eq_false_or_eq_true (isPow (a : Int)) with h1 | h1
      · rcases Bool.eq_false_or_eq_true (isPow (b : Int)) with h2 | h2
        · obtain ⟨i', _, ea⟩ := pow_nat a h1
          obtain ⟨j', _, eb⟩ := pow_nat b h2
          have := (both i' j' ea eb).1
          rw [h] at this; cases this
        · rw [h2]; simp
      · rw [h1]; simp
  · intro h1 h2
    obtain ⟨i', _, ea⟩ := pow_nat a h1
    obtain ⟨j', _, eb⟩ := pow_nat b h2
    obtain ⟨_, l, _, _, l1, l2⟩ := both i' j' ea eb
    rw [l, l1, l2]

theorem pow_mul (a b : Int) (ha : 1 ≤ a) (hb : 1 ≤ b) (ha1 : a ≤ 1073741824) (hb1 : b ≤ 1073741824) :
    isPow (a * b) = (isPow a && isPow b) ∧ (isPow a = true → isPow b = true → lg (a * b) = lg a + lg b) := by
  obtain ⟨m, rfl⟩ : ∃ m : Nat, a = m := ⟨a.toNat, by omega⟩
  obtain ⟨n, rfl⟩ : ∃ n : Nat, b = n := ⟨b.toNat, by omega⟩
  exact pow_mul_nat m n (by omega) (by omega) (by omega) (by omega)

theorem mul_in (a b : Int) (ha : 1 ≤ a) (hb : 1 ≤ b) (ha1 : a ≤ 1073741824) (hb1 : b ≤ 1073741824) : 1 ≤ a * b ∧ a * b ≤ 1152921504606846976 := by
  have h1 : 1 * 1 ≤ a * b := Int.mul_le_mul ha hb (by omega) (by omega)
  have h2 : a * b ≤ 1073741824 * 1073741824 := Int.mul_le_mul ha1 hb1 (by omega) (by omega)
  omega

theorem lst_facts (a : Int) (h1 : 1 ≤ a) (h2 : a ≤ 1073741824) : isPow (lst a) = true ∧ a ≤ lst a ∧ lst a < 2 * a ∧ (lst a == a) = isPow a := by
  obtain ⟨k, hk, e, c, d⟩ := lst_two a h1 h2
  refine ⟨by rw [e]; exact isPow_two k (by omega), by omega, by omega, ?_⟩
  rw [Bool.eq_iff_iff]
  constructor
  · intro h
    have h' : lst a = a := by simpa using h
    rw [← h', e]; exact isPow_two k (by omega)
  · intro h
    obtain ⟨j, _, ea⟩ := (isPow_iff a).1 h
    have := lst_one a h1 h2 j (by omega) (by omega)
    rw [this, ← ea]; simp

theorem lst_low (x : Int) (hx : x < 1) : lst x = 1 := by simp [lst, hx]
theorem lst_zero : lst 0 = 1 := lst_low 0 (by omega)

set_option maxHeartbeats 1000000 in
theorem powers_out (a b : Int) (w : World) (hT : Tab w) (h1 : 1 < w.heap.size) (ha : -9223372036854775808 ≤ a ∧ a ≤ 9223372036854775807) (h : a < 1 ∨ b < 1 ∨ 1073741824 < a ∨ 1073741824 < b) :
    Calls Tryd.prog 4 #[.int .i64 a, .int .i64 b] w fun e w' => e = .returned (.bool true) ∧ Below w.heap.size w w' := by
  have HT := Lib.hid hT
  clear hT
  go_enter Tryd.func4, Tryd.ntmps4
  go_wp2_with (first
    | (go_at_call 6; refine (awake_any _ HT.out h1).mono ?_; rintro e w1 ⟨rfl, hb1⟩)
    | (go_at_call 11; refine (least_any _ _ (by omega) (by omega)).mono ?_; rintro e w1 ⟨rfl, rfl⟩))
  all_goals first
    | (exfalso; omega)
    | (go_ret; exact ⟨ret_bool (by rw [lst_zero]; rfl), hb1⟩)
    | (go_ret; exact ⟨ret_bool (by rw [lst_low a (by omega)]; rfl), hb1⟩)

set_option maxHeartbeats 1000000 in
theorem powers_true_true (a b : Int) (w : World) (hT : Tab w) (h1 : 1 < w.heap.size) (ha : 1 ≤ a) (hb : 1 ≤ b) (ha1 : a ≤ 1073741824) (hb1 : b ≤ 1073741824) (hm1 : 1 ≤ a * b) (hm2 : a * b ≤ 1152921504606846976)
    (pa : isPow a = true) (pb : isPow b = true) (hp : isPow (a * b) = true) (hne : (((lg (a * b) : Nat) : Int) != ((lg a : Nat) : Int) + ((lg b : Nat) : Int)) = false) (f1 : isPow (lst a) = true) (f2 : a ≤ lst a) (f3 : lst a < 2 * a) (f4 : (lst a == a) = true) :
    Calls Tryd.prog 4 #[.int .i64 a, .int .i64 b] w fun e w' => e = .returned (.bool true) ∧ Below w.heap.size w w' := by
  have HT := Lib.hid hT
  clear hT
  have l1 : lg a < 63 := lg_lt a
  have l2 : lg b < 63 := lg_lt b
  go_enter Tryd.func4, Tryd.ntmps4
  go_wp2_with (first
    | (go_at_call 6; refine (awake_any _ HT.out h1).mono ?_; rintro e w1 ⟨rfl, hbw⟩)
    | (go_at_call 7; refine (power_any _ _ (by omega) (HT.out.keeps h1 (by assumption))).mono ?_; rintro e w1 ⟨rfl, rfl⟩)
    | (go_at_call 11; refine (least_any _ _ (by omega) (by omega)).mono ?_; rintro e w1 ⟨rfl, rfl⟩))
  go_ret
  exact ⟨rfl, hbw⟩

set_option maxHeartbeats 1000000 in
theorem powers_true_false (a b : Int) (w : World) (hT : Tab w) (h1 : 1 < w.heap.size) (ha : 1 ≤ a) (hb : 1 ≤ b) (ha1 : a ≤ 1073741824) (hb1 : b ≤ 1073741824) (hm1 : 1 ≤ a * b) (hm2 : a * b ≤ 1152921504606846976)
    (pa : isPow a = true) (pb : isPow b = false) (hp : isPow (a * b) = false) (f1 : isPow (lst a) = true) (f2 : a ≤ lst a) (f3 : lst a < 2 * a) (f4 : (lst a == a) = true) :
    Calls Tryd.prog 4 #[.int .i64 a, .int .i64 b] w fun e w' => e = .returned (.bool true) ∧ Below w.heap.size w w' := by
  have HT := Lib.hid hT
  clear hT
  have l1 : lg a < 63 := lg_lt a
  have l2 : lg b < 63 := lg_lt b
  go_enter Tryd.func4, Tryd.ntmps4
  go_wp2_with (first
    | (go_at_call 6; refine (awake_any _ HT.out h1).mono ?_; rintro e w1 ⟨rfl, hbw⟩)
    | (go_at_call 7; refine (power_any _ _ (by omega) (HT.out.keeps h1 (by assumption))).mono ?_; rintro e w1 ⟨rfl, rfl⟩)
    | (go_at_call 11; refine (least_any _ _ (by omega) (by omega)).mono ?_; rintro e w1 ⟨rfl, rfl⟩))
  go_ret
  exact ⟨rfl, hbw⟩

set_option maxHeartbeats 1000000 in
theorem powers_false_true (a b : Int) (w : World) (hT : Tab w) (h1 : 1 < w.heap.size) (ha : 1 ≤ a) (hb : 1 ≤ b) (ha1 : a ≤ 1073741824) (hb1 : b ≤ 1073741824) (hm1 : 1 ≤ a * b) (hm2 : a * b ≤ 1152921504606846976)
    (pa : isPow a = false) (pb : isPow b = true) (hp : isPow (a * b) = false) (f1 : isPow (lst a) = true) (f2 : a ≤ lst a) (f3 : lst a < 2 * a) (f4 : (lst a == a) = false) :
    Calls Tryd.prog 4 #[.int .i64 a, .int .i64 b] w fun e w' => e = .returned (.bool true) ∧ Below w.heap.size w w' := by
  have HT := Lib.hid hT
  clear hT
  have l1 : lg a < 63 := lg_lt a
  have l2 : lg b < 63 := lg_lt b
  go_enter Tryd.func4, Tryd.ntmps4
  go_wp2_with (first
    | (go_at_call 6; refine (awake_any _ HT.out h1).mono ?_; rintro e w1 ⟨rfl, hbw⟩)
    | (go_at_call 7; refine (power_any _ _ (by omega) (HT.out.keeps h1 (by assumption))).mono ?_; rintro e w1 ⟨rfl, rfl⟩)
    | (go_at_call 11; refine (least_any _ _ (by omega) (by omega)).mono ?_; rintro e w1 ⟨rfl, rfl⟩))
  go_ret
  exact ⟨rfl, hbw⟩

set_option maxHeartbeats 1000000 in
theorem powers_false_false (a b : Int) (w : World) (hT : Tab w) (h1 : 1 < w.heap.size) (ha : 1 ≤ a) (hb : 1 ≤ b) (ha1 : a ≤ 1073741824) (hb1 : b ≤ 1073741824) (hm1 : 1 ≤ a * b) (hm2 : a * b ≤ 1152921504606846976)
    (pa : isPow a = false) (pb : isPow b = false) (hp : isPow (a * b) = false) (f1 : isPow (lst a) = true) (f2 : a ≤ lst a) (f3 : lst a < 2 * a) (f4 : (lst a == a) = false) :
    Calls Tryd.prog 4 #[.int .i64 a, .int .i64 b] w fun e w' => e = .returned (.bool true) ∧ Below w.heap.size w w' := by
  have HT := Lib.hid hT
  clear hT
  have l1 : lg a < 63 := lg_lt a
  have l2 : lg b < 63 := lg_lt b
  go_enter Tryd.func4, Tryd.ntmps4
  go_wp2_with (first
    | (go_at_call 6; refine (awake_any _ HT.out h1).mono ?_; rintro e w1 ⟨rfl, hbw⟩)
    | (go_at_call 7; refine (power_any _ _ (by omega) (HT.out.keeps h1 (by assumption))).mono ?_; rintro e w1 ⟨rfl, rfl⟩)
    | (go_at_call 11; refine (least_any _ _ (by omega) (by omega)).mono ?_; rintro e w1 ⟨rfl, rfl⟩))
  go_ret
  exact ⟨rfl, hbw⟩

theorem powers_any (a b : Int) (w : World) (hT : Tab w) (h1 : 1 < w.heap.size) (hr : -9223372036854775808 ≤ a ∧ a ≤ 9223372036854775807) :
    Calls Tryd.prog 4 #[.int .i64 a, .int .i64 b] w fun e w' => e = .returned (.bool true) ∧ Below w.heap.size w w' := by
  by_cases h : a < 1 ∨ b < 1 ∨ 1073741824 < a ∨ 1073741824 < b
  · exact powers_out a b w hT h1 hr h
  · have ha : 1 ≤ a := by omega
    have hb : 1 ≤ b := by omega
    have ha1 : a ≤ 1073741824 := by omega
    have hb1 : b ≤ 1073741824 := by omega
    obtain ⟨hm1, hm2⟩ := mul_in a b ha hb ha1 hb1
    obtain ⟨hp, hl⟩ := pow_mul a b ha hb ha1 hb1
    obtain ⟨f1, f2, f3, f4⟩ := lst_facts a ha ha1
    rcases Bool.eq_false_or_eq_true (isPow a) with pa | pa <;> rcases Bool.eq_false_or_eq_true (isPow b) with pb | pb
    · rw [pa] at f4
      exact powers_true_true a b w hT h1 ha hb ha1 hb1 hm1 hm2 pa pb (by rw [hp, pa, pb]; rfl) (by rw [hl pa pb]; simp) f1 f2 f3 f4
    · rw [pa] at f4
      exact powers_true_false a b w hT h1 ha hb ha1 hb1 hm1 hm2 pa pb (by rw [hp, pa, pb]; rfl) f1 f2 f3 f4
    · rw [pa] at f4
      exact powers_false_true a b w hT h1 ha hb ha1 hb1 hm1 hm2 pa pb (by rw [hp, pa, pb]; rfl) f1 f2 f3 f4
    · rw [pa] at f4
      exact powers_false_false a b w hT h1 ha hb ha1 hb1 hm1 hm2 pa pb (by rw [hp, pa, pb]; rfl) f1 f2 f3 f4

end Go.Proofs.YtbopjnpohenkhaaDoor
