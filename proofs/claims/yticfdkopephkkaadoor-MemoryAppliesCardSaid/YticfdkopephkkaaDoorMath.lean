/-
  Plain facts on powers of two that the proofs of this seat lean on: which numbers are one, and the least one no less. No program is spoken of here.
-/
import Derived.Lib.TrailingZeros
import Derived.Lib.BitFns
import Derived.Laws.Bits64b
import Derived.WalkKit
namespace Go.Proofs.YticfdkopephkkaaDoor
open Go

/-- Is a number one of the powers of two below 2^63? -/
def isPow (n : Int) : Bool := (List.range 63).any fun k => n == (2 : Int) ^ k
/-- Which one; 0, if it is none. -/
def lg (n : Int) : Nat := ((List.range 63).find? fun k => n == (2 : Int) ^ k).getD 0

theorem isPow_iff (n : Int) : isPow n = true ↔ ∃ k : Nat, k < 63 ∧ n = (2 : Int) ^ k := by
  unfold isPow
  rw [List.any_eq_true]
  constructor
  · rintro ⟨k, hk, e⟩
    exact ⟨k, List.mem_range.1 hk, by simpa using e⟩
  · rintro ⟨k, hk, e⟩
    exact ⟨k, List.mem_range.2 hk, by simpa using e⟩

theorem isPow_two (k : Nat) (hk : k < 63) : isPow ((2 : Int) ^ k) = true := (isPow_iff _).2 ⟨k, hk, rfl⟩

theorem lg_two : ∀ k, k < 63 → lg ((2 : Int) ^ k) = k := by decide +kernel

theorem lg_no (n : Int) (h : isPow n = false) : lg n = 0 := by
  unfold lg
  have : (List.range 63).find? (fun k => n == (2 : Int) ^ k) = none := by
    rw [List.find?_eq_none]
    intro k hk e
    have := isPow_two k (List.mem_range.1 hk)
    have e' : n = (2 : Int) ^ k := by simpa using e
    rw [← e', h] at this
    cases this
  rw [this]; rfl

theorem lg_lt (n : Int) : lg n < 63 := by
  rcases Bool.eq_false_or_eq_true (isPow n) with h | h
  · obtain ⟨k, hk, rfl⟩ := (isPow_iff n).1 h
    rw [lg_two k hk]; exact hk
  · rw [lg_no n h]; omega

theorem two_lt (k : Nat) (hk : k < 63) : 0 < (2 : Int) ^ k ∧ (2 : Int) ^ k ≤ 4611686018427387904 := by
  have h1 : (2 : Nat) ^ k ≤ 2 ^ 62 := Nat.pow_le_pow_right (by decide) (by omega)
  have h2 : 0 < (2 : Nat) ^ k := Nat.two_pow_pos k
  have e : ((2 ^ k : Nat) : Int) = (2 : Int) ^ k := by simp
  have e62 : (2 : Nat) ^ 62 = 4611686018427387904 := by decide
  omega

/-- n & (n - 1) is 0 just at powers of two. -/
theorem and_pred (n : Nat) (h0 : 0 < n) (h : n < 2 ^ 63) : (n &&& (n - 1) = 0) ↔ ∃ k, k < 63 ∧ n = 2 ^ k := by
  constructor
  · intro e
    obtain ⟨m, hm, hk⟩ := Lib.ctzFrom_spec 63 n h0 h
    generalize Lib.ctzFrom 63 n = k at hm hk
    refine ⟨k, hk, ?_⟩
    have hp : 0 < 2 ^ k := Nat.two_pow_pos k
    have d1 : n / 2 ^ (k + 1) = m := by
      rw [hm, Nat.pow_succ, ← Nat.div_div_eq_div_mul, Nat.mul_div_cancel_left _ hp]; omega
    have d2 : (n - 1) / 2 ^ (k + 1) = m := by
      have e1 : n - 1 = (2 ^ k - 1) + 2 ^ k * (2 * m) := by
        rw [hm, Nat.mul_add, Nat.mul_one]; omega
      have e0 : (2 ^ k - 1) / 2 ^ k = 0 := Nat.div_eq_of_lt (by omega)
      rw [e1, Nat.pow_succ, ← Nat.div_div_eq_div_mul, Nat.add_mul_div_left _ _ hp, e0]; omega
    have d3 := Nat.and_div_two_pow (a := n) (b := n - 1) (n := k + 1)
    rw [e, d1, d2, Nat.and_self, Nat.zero_div] at d3
    rw [hm, ← d3]; simp
  · rintro ⟨k, _, rfl⟩
    rw [Nat.and_two_pow_sub_one_eq_mod, Nat.mod_self]

theorem bits_and_i64_nat (a b : Nat) (ha : a < 9223372036854775808) (hb : b < 9223372036854775808) :
    bits .and .i64 (a : Int) (b : Int) = ((a &&& b : Nat) : Int) := by
  have hx : a &&& b < 2 ^ 63 := Nat.and_lt_two_pow _ (by omega)
  have h1 : (BitVec.ofInt 64 (a : Int)).toNat = a := by
    rw [BitVec.ofInt_natCast, BitVec.toNat_ofNat]; exact Nat.mod_eq_of_lt (by omega)
  have h2 : (BitVec.ofInt 64 (b : Int)).toNat = b := by
    rw [BitVec.ofInt_natCast, BitVec.toNat_ofNat]; exact Nat.mod_eq_of_lt (by omega)
  show IntKind.i64.wrap ((BitVec.ofInt 64 (a : Int) &&& BitVec.ofInt 64 (b : Int)).toNat : Int) = _
  rw [BitVec.toNat_and, h1, h2, IntKind.wrap_i64]
  omega

/-- The program's own test, in the walk's words. -/
theorem isPow_and (n : Int) (h0 : 0 < n) (h1 : n ≤ 9223372036854775807) : (bits .and .i64 n (n - 1) == 0) = isPow n := by
  obtain ⟨m, rfl⟩ : ∃ m : Nat, n = m := ⟨n.toNat, by omega⟩
  have e : ((m : Int) - 1) = ((m - 1 : Nat) : Int) := by omega
  rw [e, bits_and_i64_nat m (m - 1) (by omega) (by omega), Bool.eq_iff_iff, isPow_iff]
  have := and_pred m (by omega) (by omega)
  constructor
  · intro h
    obtain ⟨k, hk, rfl⟩ := this.1 (by simpa using h)
    exact ⟨k, hk, by simp⟩
  · rintro ⟨k, hk, h⟩
    have : m &&& (m - 1) = 0 := this.2 ⟨k, hk, by have h' : ((2 ^ k : Nat) : Int) = (2 : Int) ^ k := by simp
                                                  omega⟩
    simp [this]

theorem isPow_neg (n : Int) (h : n ≤ 0) : isPow n = false := by
  rcases Bool.eq_false_or_eq_true (isPow n) with h' | h'
  · obtain ⟨k, hk, rfl⟩ := (isPow_iff n).1 h'
    have := two_lt k hk
    omega
  · exact h'

/-- The de Bruijn product's place for a power of two. -/
def place (k : Nat) : Nat := 2 ^ k * 285870213051353865 % 18446744073709551616 / 288230376151711744
theorem place_lt (k : Nat) (hk : k < 63) : place k < 64 := (Lib.deBruijn64_at k (by omega)).1
theorem place_at (k : Nat) (hk : k < 63) : Lib.deBruijn64tab.getD (place k) 0 = k := (Lib.deBruijn64_at k (by omega)).2

theorem place_key (k : Nat) (hk : k < 63) :
    IntKind.u64.wrap (bits BinOp.and IntKind.u64 ((2 : Int) ^ k) (IntKind.u64.wrap (-((2 : Int) ^ k))) * 285870213051353865) / 288230376151711744 = (place k : Int) := by
  have hb := two_lt k hk
  have e : (2 : Int) ^ k = ((2 ^ k : Nat) : Int) := by simp
  have hlt : (2 : Nat) ^ k < 18446744073709551616 := by omega
  have hlow : (2 : Nat) ^ k &&& (18446744073709551616 - 2 ^ k) = 2 ^ k := by
    have := Lib.and_neg 64 k 0 (by simpa using hlt)
    simpa using this
  have e1 : IntKind.u64.wrap (-((2 ^ k : Nat) : Int)) = ((18446744073709551616 - 2 ^ k : Nat) : Int) := by rw [IntKind.wrap_u64]; omega
  rw [e, e1, bits_and_u64_nat _ _ hlt (by omega), hlow, IntKind.wrap_u64]
  unfold place
  omega

/-- The least power of two that is no less, for the numbers of which the document speaks. -/
def lst (n : Int) : Int := if n < 1 then 1 else if 1073741824 < n then 0 else (2 : Int) ^ Lib.bitLen (n - 1).toNat

theorem bitLen_two : ∀ (f x : Nat), x < 2 ^ f → x < 2 ^ Lib.bitLenAux f x ∧ (Lib.bitLenAux f x = 0 ∨ 2 ^ Lib.bitLenAux f x ≤ 2 * x) ∧ Lib.bitLenAux f x ≤ f := by
  intro f
  induction f with
  | zero => intro x h; simp [Lib.bitLenAux]; simpa using h
  | succ f ih =>
    intro x h
    unfold Lib.bitLenAux
    split
    · rename_i h0; subst h0; simp
    · rename_i h0
      have := ih (x / 2) (by rw [Nat.pow_succ] at h; omega)
      obtain ⟨a, b, c⟩ := this
      rw [Nat.add_comm 1, Nat.pow_succ]
      refine ⟨by omega, .inr ?_, by omega⟩
      rcases b with b | b
      · rw [b] at a ⊢; omega
      · omega

theorem lst_two (n : Int) (h1 : 1 ≤ n) (h2 : n ≤ 1073741824) : ∃ k : Nat, k ≤ 30 ∧ lst n = (2 : Int) ^ k ∧ n ≤ (2 : Int) ^ k ∧ (2 : Int) ^ k < 2 * n := by
  obtain ⟨m, rfl⟩ : ∃ m : Nat, n = m + 1 := ⟨(n - 1).toNat, by omega⟩
  have hm : m < 2 ^ 30 := by omega
  refine ⟨Lib.bitLen m, ?_, ?_, ?_⟩
  · exact Lib.bitLen_le m 30 (by omega) hm
  · unfold lst
    rw [if_neg (by omega), if_neg (by omega)]
    congr 2
    omega
  · have := bitLen_two 64 m (Nat.lt_trans hm (by decide))
    obtain ⟨a, b, _⟩ := this
    change m < 2 ^ Lib.bitLen m at a
    change Lib.bitLen m = 0 ∨ 2 ^ Lib.bitLen m ≤ 2 * m at b
    have e : (2 : Int) ^ Lib.bitLen m = ((2 ^ Lib.bitLen m : Nat) : Int) := by simp
    rw [e]
    rcases b with b | b
    · rw [b] at a ⊢; simp; omega
    · omega

theorem two_le_of_lt (j k : Nat) (h : (2 : Int) ^ j < 2 * (2 : Int) ^ k) : j ≤ k := by
  have h1 : (2 : Nat) ^ j < 2 * 2 ^ k := by
    have e1 : ((2 ^ j : Nat) : Int) = (2 : Int) ^ j := by simp
    have e2 : ((2 ^ k : Nat) : Int) = (2 : Int) ^ k := by simp
    omega
  have h2 : (2 : Nat) ^ j < 2 ^ (k + 1) := by rw [Nat.pow_succ]; omega
  have := (Nat.pow_lt_pow_iff_right (a := 2) (by decide)).1 h2
  omega

theorem lst_one (n : Int) (h1 : 1 ≤ n) (h2 : n ≤ 1073741824) (j : Nat) (ha : n ≤ (2 : Int) ^ j) (hb : (2 : Int) ^ j < 2 * n) : lst n = (2 : Int) ^ j := by
  obtain ⟨k, _, e, c, d⟩ := lst_two n h1 h2
  have : j = k := by
    have := two_le_of_lt j k (by omega)
    have := two_le_of_lt k j (by omega)
    omega
  rw [e, this]

set_option maxRecDepth 100000 in
theorem lenTab_size : (Lib.len8tab.size : Int) = 256 := by
  have : Lib.len8tab.size = 256 := by decide
  omega
theorem lenTab_at (y : Int) (h0 : 0 ≤ y) (h1 : y ≤ 255) (h : y.toNat < Lib.len8tab.size) : ((Lib.len8tab[y.toNat]'h).toNat : Int) = Lib.bitLen y.toNat ∧ Lib.bitLen y.toNat ≤ 8 := by
  refine ⟨?_, Lib.bitLen_le8' y h0 h1⟩
  rw [← Lib.len8_of y h0 h1]
  unfold Lib.len8
  rw [getElem?_pos Lib.len8tab y.toNat h]
  rfl
theorem lenSum (k a b c : Nat) (hk : k ≤ 56) (ha : a ≤ 8) (hc : c = a) (hb : b = k + a) : RowKit.wrap64 ((k : Int) + RowKit.wrap64 (c : Int)) = (b : Int) := by
  subst hc
  unfold RowKit.wrap64
  omega

/-- From one number to another one; a power of two up to a number; what a bound lets be. -/
def inB (n lo hi : Int) : Bool := decide (lo ≤ n) && decide (n ≤ hi)
def powB (n hi : Int) : Bool := isPow n && decide (n ≤ hi)
def bndB (s lo hi : Int) (p : Bool) : Bool := decide (lo ≤ s) && decide (s ≤ hi) && (!p || isPow s)

end Go.Proofs.YticfdkopephkkaaDoor
