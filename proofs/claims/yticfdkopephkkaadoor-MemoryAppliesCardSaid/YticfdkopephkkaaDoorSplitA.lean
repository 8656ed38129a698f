/-
  What the smallest functions of package split do, one contract each: within, cutBy, above, below, join.
-/
import Derived.Test.YticfdkopephkkaaDoorSize
import Derived.Test.YticfdkopephkkaaDoorShape
namespace Go.Proofs.YticfdkopephkkaaDoor
open Go Go.RowKit

/-- The de Bruijn table stands, and lies below the heap's end. -/
def Tb (w : World) : Prop := Tab w ∧ 1 < w.heap.size
theorem Tb.keeps {w w' : World} (h : Tb w) (hb : Below w.heap.size w w') : Tb w' := ⟨h.1.keeps h.2 hb, Nat.lt_of_lt_of_le h.2 hb.size⟩

/-- Is a number one of the first so many from 0 on? -/
def inR (n m : Int) : Bool := decide (0 ≤ n) && decide (n < m)

theorem within_any (n m : Int) (w : World) :
    Calls Tryd.prog 20 #[.int .i64 n, .int .i64 m] w fun e w' => e = .returned (.bool (inR n m)) ∧ w = w' := by
  go_enter Tryd.func20, Tryd.ntmps20
  go_wp2
  · have h : 0 ≤ n := by assumption
    go_ret
    exact ⟨ret_bool (by simp [inR, h]), rfl⟩
  · have h : n < 0 := by assumption
    go_ret
    exact ⟨ret_bool (by simp [inR]; omega), rfl⟩

theorem cutBy_any (n : Int) (w : World) (h1 : n ≤ 9223372036854775807) (hT : Tb w) :
    Calls Tryd.prog 25 #[.int .i64 n] w fun e w' => e = .returned (.agg #[.int .i64 (lg n)]) ∧ Below w.heap.size w w' := by
  have HT := Lib.hid hT
  clear hT
  go_enter Tryd.func25, Tryd.ntmps25
  go_wp2_with (go_at_call 31; refine (power_any _ _ h1 (HT.out.keeps ((Below.refl _ _).alloc (Nat.le_refl _) _)).1).mono ?_; rintro e w' ⟨rfl, rfl⟩)
  exact bodyPost_ret (v := .agg #[.int .i64 (lg n)]) (by simp [results, Tryd.results25, go_sem]) rfl ⟨rfl, (Below.refl _ _).alloc (Nat.le_refl _) _⟩

theorem two_pow_cast (k : Nat) : ((2 ^ k : Nat) : Int) = (2 : Int) ^ k := by simp

theorem bits_or_i64_nat (a b : Nat) (ha : a < 9223372036854775808) (hb : b < 9223372036854775808) :
    bits .or .i64 (a : Int) (b : Int) = ((a ||| b : Nat) : Int) := by
  have hx : a ||| b < 2 ^ 63 := Nat.or_lt_two_pow (by omega) (by omega)
  have h1 : (BitVec.ofInt 64 (a : Int)).toNat = a := by
    rw [BitVec.ofInt_natCast, BitVec.toNat_ofNat]; exact Nat.mod_eq_of_lt (by omega)
  have h2 : (BitVec.ofInt 64 (b : Int)).toNat = b := by
    rw [BitVec.ofInt_natCast, BitVec.toNat_ofNat]; exact Nat.mod_eq_of_lt (by omega)
  show IntKind.i64.wrap ((BitVec.ofInt 64 (a : Int) ||| BitVec.ofInt 64 (b : Int)).toNat : Int) = _
  rw [BitVec.toNat_or, h1, h2, IntKind.wrap_i64]
  omega

theorem low_bits (n : Int) (k : Nat) (hk : k < 63) (hn : 0 ≤ n) (hn1 : n ≤ 9223372036854775807) :
    bits BinOp.and IntKind.i64 n (wrap64 (wrap64 (2 ^ k) - 1)) = n % 2 ^ k := by
  obtain ⟨m, rfl⟩ : ∃ m : Nat, n = m := ⟨n.toNat, by omega⟩
  have hb := two_lt k hk
  have e := two_pow_cast k
  have hp : 0 < 2 ^ k := Nat.two_pow_pos k
  have e1 : wrap64 (wrap64 (2 ^ k) - 1) = ((2 ^ k - 1 : Nat) : Int) := by unfold wrap64; omega
  rw [e1, bits_and_i64_nat m (2 ^ k - 1) (by omega) (by omega), Nat.and_two_pow_sub_one_eq_mod, ← e]
  omega

theorem both_bits (n l : Int) (k : Nat) (hk : k < 63) (hn : 0 ≤ n) (hl : 0 ≤ l) (hl2 : l < 2 ^ k) (hm : n * 2 ^ k ≤ 4611686018427387904) :
    bits BinOp.or IntKind.i64 (wrap64 (n * 2 ^ k)) l = n * 2 ^ k + l := by
  obtain ⟨m, rfl⟩ : ∃ m : Nat, n = m := ⟨n.toNat, by omega⟩
  obtain ⟨j, rfl⟩ : ∃ m : Nat, l = m := ⟨l.toNat, by omega⟩
  have hb := two_lt k hk
  have e := two_pow_cast k
  rw [← e] at hl2 hm ⊢
  have em : ((m : Int) * ((2 ^ k : Nat) : Int)) = ((2 ^ k * m : Nat) : Int) := by rw [Nat.mul_comm]; simp
  rw [em] at hm ⊢
  have e1 : wrap64 ((2 ^ k * m : Nat) : Int) = ((2 ^ k * m : Nat) : Int) := by unfold wrap64; omega
  rw [e1, bits_or_i64_nat _ _ (by omega) (by omega), ← Nat.two_pow_add_eq_or_of_lt (by omega)]
  omega

theorem pow_of {s : Int} (hs : isPow s = true) : ∃ k : Nat, k < 63 ∧ s = (2 : Int) ^ k ∧ lg s = k := by
  obtain ⟨k, hk, rfl⟩ := (isPow_iff s).1 hs
  exact ⟨k, hk, rfl, lg_two k hk⟩

theorem above_any (n s : Int) (w : World) (hs : isPow s = true) :
    Calls Tryd.prog 26 #[.agg #[.int .i64 (lg s)], .int .i64 n] w fun e w' => e = .returned (.int .i64 (n / s)) ∧ Below w.heap.size w w' := by
  obtain ⟨k, hk, rfl, e⟩ := pow_of hs
  rw [e]
  clear e hs
  go_enter Tryd.func26, Tryd.ntmps26
  go_wp2
  go_ret
  exact ⟨rfl, (Below.refl _ _).alloc (Nat.le_refl _) _⟩

theorem below_any (n s : Int) (w : World) (hs : isPow s = true) (hn : 0 ≤ n) (hn1 : n ≤ 9223372036854775807) :
    Calls Tryd.prog 27 #[.agg #[.int .i64 (lg s)], .int .i64 n] w fun e w' => e = .returned (.int .i64 (n % s)) ∧ Below w.heap.size w w' := by
  obtain ⟨k, hk, rfl, e⟩ := pow_of hs
  rw [e]
  clear e hs
  go_enter Tryd.func27, Tryd.ntmps27
  go_wp2
  go_ret
  exact ⟨ret_int (low_bits n k hk hn hn1), (Below.refl _ _).alloc (Nat.le_refl _) _⟩

/-- How a number is cut by a size, as function values. -/
abbrev fAbove (s : Int) : Value := .func (.func 26) #[.agg #[.int .i64 (lg s)]] #[]
abbrev fBelow (s : Int) : Value := .func (.func 27) #[.agg #[.int .i64 (lg s)]] #[]

theorem parts_any (n : Int) (w : World) (h1 : n ≤ 9223372036854775807) (hT : Tb w) :
    Calls Tryd.prog 21 #[.int .i64 n] w fun e w' => e = .returned (.tuple #[fAbove n, fBelow n]) ∧ Below w.heap.size w w' := by
  have HT := Lib.hid hT
  clear hT
  have hmf : ∀ (fn : Fn) (first cap : Array Value) (w : World), (Instr.makeFunc fn first cap).run Tryd.prog w = .ok (.func fn first cap) w := fun _ _ _ _ => rfl
  go_enter Tryd.func21, Tryd.ntmps21
  go_wp2_with (go_at_call 25; refine (cutBy_any _ _ h1 HT.out).mono ?_; rintro e w1 ⟨rfl, hb1⟩)
  go_region
  all_goals (try go_wp2)
  all_goals (go_ret2; exact ⟨rfl, (hb1.alloc hb1.size _).drew⟩)

end Go.Proofs.YticfdkopephkkaaDoor
