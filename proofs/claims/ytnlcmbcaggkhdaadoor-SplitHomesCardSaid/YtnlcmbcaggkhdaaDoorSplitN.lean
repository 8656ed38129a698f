/-
  Plain facts on a home's lines: what they are, how far they are apart, and how many there are of all homes together.
-/
import Derived.Test.YtnlcmbcaggkhdaaDoorSplitW
namespace Go.Proofs.YtnlcmbcaggkhdaaDoor
open Go Go.RowKit

theorem lnsK_len (s h : Int) (k : Nat) : (lnsK s h (k + 1)).length = (lnsK s h k).length + (if (k : Int) % s = h then 1 else 0) := by
  by_cases e : (k : Int) % s = h
  · rw [lnsK_hit s h k (by simpa using e), if_pos e]; simp
  · rw [lnsK_miss s h k (by simpa using e), if_neg e]; simp

theorem lnsK_form (s h : Int) (hs : 1 ≤ s) (h0 : 0 ≤ h) (h1 : h < s) (n : Nat) :
    lnsK s h n = (List.range (lnsK s h n).length).map (fun j : Nat => h + (j : Int) * s) ∧ (n : Int) ≤ h + ((lnsK s h n).length : Int) * s ∧ (0 < (lnsK s h n).length → h + (((lnsK s h n).length : Int) - 1) * s < n) := by
  induction n with
  | zero => exact ⟨by simp [lnsK], by simp [lnsK]; omega, by simp [lnsK]⟩
  | succ n ih =>
    obtain ⟨a, b, c⟩ := ih
    have hl := lnsK_len s h n
    generalize hm : (lnsK s h n).length = m at *
    by_cases e : (n : Int) % s = h
    · rw [if_pos e] at hl
      rw [lnsK_hit s h n (by simpa using e)]
      have hq : (n : Int) = h + (n : Int) / s * s := by
        have := Int.mul_ediv_add_emod (n : Int) s
        rw [Int.mul_comm]; omega
      generalize (n : Int) / s = q at hq
      have q1 : q ≤ m := by
        have : q * s ≤ (m : Int) * s := by omega
        exact Int.le_of_mul_le_mul_right this (by omega)
      have q2 : (m : Int) ≤ q := by
        rcases Nat.eq_zero_or_pos m with hm0 | hm0
        · rcases Int.lt_or_le q 0 with h' | h'
          · exfalso
            have : q * s ≤ -1 * s := Int.mul_le_mul_of_nonneg_right (by omega) (by omega)
            omega
          · omega
        · have : ((m : Int) - 1) * s < q * s := by have := c hm0; omega
          have := Int.lt_of_mul_lt_mul_right this (by omega)
          omega
      obtain rfl : q = m := by omega
      refine ⟨?_, ?_, ?_⟩
      · rw [List.length_append, hm]
        simp only [List.length_singleton]
        rw [List.range_succ, List.map_append, ← a]
        simp
        omega
      · rw [List.length_append, hm]
        simp only [List.length_singleton]
        have : (((m + 1 : Nat) : Int)) * s = (m : Int) * s + s := by rw [show ((m + 1 : Nat) : Int) = (m : Int) + 1 by omega, Int.add_mul]; omega
        omega
      · intro _
        rw [List.length_append, hm]
        simp only [List.length_singleton]
        have : (((m + 1 : Nat) : Int) - 1) = m := by omega
        rw [this]
        omega
    · rw [if_neg e] at hl
      rw [lnsK_miss s h n (by simpa using e), hm]
      refine ⟨a, ?_, fun h => by have := c h; omega⟩
      have : (n : Int) ≠ h + (m : Int) * s := by
        intro e'
        apply e
        rw [e', Int.add_mul_emod_self_right]
        exact Int.emod_eq_of_lt h0 h1
      omega

theorem lnsK_at (s h : Int) (hs : 1 ≤ s) (h0 : 0 ≤ h) (h1 : h < s) (n k : Nat) (hk : k < (lnsK s h n).length) : (lnsK s h n).getD k 0 = h + (k : Int) * s := by
  obtain ⟨a, _, _⟩ := lnsK_form s h hs h0 h1 n
  rw [a]
  simp [hk]
theorem lnsK_in (s h : Int) (n k : Nat) (hk : k < (lnsK s h n).length) : 0 ≤ (lnsK s h n).getD k 0 ∧ (lnsK s h n).getD k 0 < n ∧ (lnsK s h n).getD k 0 % s = h := by
  have hm : (lnsK s h n).getD k 0 ∈ lnsK s h n := by
    rw [List.getD_eq_getElem?_getD, List.getElem?_eq_getElem hk]
    exact List.getElem_mem hk
  generalize (lnsK s h n).getD k 0 = x at hm
  unfold lnsK at hm
  simp at hm
  obtain ⟨⟨j, hj, rfl⟩, e⟩ := hm
  exact ⟨by omega, by omega, e⟩
theorem lnsK_next (s h : Int) (hs : 1 ≤ s) (h0 : 0 ≤ h) (h1 : h < s) (n k : Nat) (hk : k + 1 < (lnsK s h n).length) : (lnsK s h n).getD (k + 1) 0 = (lnsK s h n).getD k 0 + s := by
  rw [lnsK_at s h hs h0 h1 n (k + 1) hk, lnsK_at s h hs h0 h1 n k (by omega)]
  rw [show ((k + 1 : Nat) : Int) = (k : Int) + 1 by omega, Int.add_mul]
  omega

/-- How many lines the first k homes have together. -/
def tot (s : Int) (n k : Nat) : Nat := ((List.range k).map fun h : Nat => (lnsK s h n).length).sum
theorem tot_succ (s : Int) (n k : Nat) : tot s n (k + 1) = tot s n k + (lnsK s k n).length := by
  simp [tot, List.range_succ]
theorem tot_more (s : Int) (n k : Nat) : tot s (n + 1) k = tot s n k + (if 0 ≤ (n : Int) % s ∧ (n : Int) % s < k then 1 else 0) := by
  induction k with
  | zero => simp [tot]
  | succ k ih =>
    rw [tot_succ, tot_succ, ih, lnsK_len]
    by_cases e : (n : Int) % s = k
    · rw [if_pos e, if_neg (by omega), if_pos (by omega)]; omega
    · rw [if_neg e]
      by_cases e' : 0 ≤ (n : Int) % s ∧ (n : Int) % s < k
      · rw [if_pos e', if_pos (by omega)]; omega
      · rw [if_neg e', if_neg (by omega)]; omega
theorem tot_zero (s : Int) (k : Nat) : tot s 0 k = 0 := by
  induction k with
  | zero => rfl
  | succ k ih => rw [tot_succ, ih]; simp [lnsK]
theorem tot_le (s : Int) (n k : Nat) : tot s n k ≤ n := by
  induction n with
  | zero => rw [tot_zero]; omega
  | succ n ih => rw [tot_more]; split <;> omega
theorem tot_all (s : Int) (hs : 1 ≤ s) (n : Nat) : tot s n s.toNat = n := by
  induction n with
  | zero => exact tot_zero s _
  | succ n ih =>
    have a := Int.emod_nonneg (n : Int) (show s ≠ 0 by omega)
    have b := Int.emod_lt_of_pos (n : Int) (show 0 < s by omega)
    rw [tot_more, ih, if_pos (by omega)]

end Go.Proofs.YtnlcmbcaggkhdaaDoor
