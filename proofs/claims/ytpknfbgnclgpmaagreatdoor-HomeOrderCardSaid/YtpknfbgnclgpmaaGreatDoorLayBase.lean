/-
  Several texts in one: Math, ShapeA, Conf, Chk, Size, Shape, SplitA, SplitB, SizeP, SplitAj, SplitBj, LaidA, Open.
-/
import Derived.Lib.TrailingZeros
import Derived.Lib.BitFns
import Derived.Laws.Bits64b
import Derived.WalkKit
import Derived.Test.YtpknfbgnclgpmaaGreatDoorRows
import Derived.WalkSpells
import Derived.WalkLawsBesides
import Derived.Lib.Hide
import Derived.Laws.CopyOwn
import Derived.ProofKit
import Derived.LaidMore
import Derived.OpenShut
import Derived.Stop.Joined
import Derived.Stop.LaidErr
import Derived.Lib.LaidTab
import Derived.ChangeOld
import Derived.Below

/-
  Plain facts on powers of two that the proofs of this seat lean on: which numbers are one, and the least one no less. No program is spoken of here.
-/
namespace Go.Proofs.YtpknfbgnclgpmaaGreatDoor
open Go

/-- Is a number one of the powers of two below 2^63? -/
def isPow (n : Int) : Bool := (List.range 63).any fun k => n == (2 : Int) ^ k
/-- Which one; 0, if it is none. -/
def lg (n : Int) : Nat := ((List.range 63).find? fun k => n == (2 : Int) ^ k).getD 0

theorem isPow_iff (n : Int) : isPow n = true ↔ ∃ k : Nat, k < 63 ∧ n = (2 : Int) ^ k := by
  unfold isPow
  rw [List.any_eq_true]
  constructor
  · rintro ⟨k, hk, e⟩
    exact ⟨k, List.mem_range.1 hk, by simpa using e⟩
  · rintro ⟨k, hk, e⟩
    exact ⟨k, List.mem_range.2 hk, by simpa using e⟩

theorem isPow_two (k : Nat) (hk : k < 63) : isPow ((2 : Int) ^ k) = true := (isPow_iff _).2 ⟨k, hk, rfl⟩

theorem lg_two : ∀ k, k < 63 → lg ((2 : Int) ^ k) = k := by decide +kernel

theorem lg_no (n : Int) (h : isPow n = false) : lg n = 0 := by
  unfold lg
  have : (List.range 63).find? (fun k => n == (2 : Int) ^ k) = none := by
    rw [List.find?_eq_none]
    intro k hk e
    have := isPow_two k (List.mem_range.1 hk)
    have e' : n = (2 : Int) ^ k := by simpa using e
    rw [← e', h] at this
    cases this
  rw [this]; rfl

theorem lg_lt (n : Int) : lg n < 63 := by
  rcases Bool.eq_false_or_eq_true (isPow n) with h | h
  · obtain ⟨k, hk, rfl⟩ := (isPow_iff n).1 h
    rw [lg_two k hk]; exact hk
  · rw [lg_no n h]; omega

theorem two_lt (k : Nat) (hk : k < 63) : 0 < (2 : Int) ^ k ∧ (2 : Int) ^ k ≤ 4611686018427387904 := by
  have h1 : (2 : Nat) ^ k ≤ 2 ^ 62 := Nat.pow_le_pow_right (by decide) (by omega)
  have h2 : 0 < (2 : Nat) ^ k := Nat.two_pow_pos k
  have e : ((2 ^ k : Nat) : Int) = (2 : Int) ^ k := by simp
  have e62 : (2 : Nat) ^ 62 = 4611686018427387904 := by decide
  omega

/-- n & (n - 1) is 0 just at powers of two. -/
theorem and_pred (n : Nat) (h0 : 0 < n) (h : n < 2 ^ 63) : (n &&& (n - 1) = 0) ↔ ∃ k, k < 63 ∧ n = 2 ^ k := by
  constructor
  · intro e
    obtain ⟨m, hm, hk⟩ := Lib.ctzFrom_spec 63 n h0 h
    generalize Lib.ctzFrom 63 n = k at hm hk
    refine ⟨k, hk, ?_⟩
    have hp : 0 < 2 ^ k := Nat.two_pow_pos k
    have d1 : n / 2 ^ (k + 1) = m := by
      rw [hm, Nat.pow_succ, ← Nat.div_div_eq_div_mul, Nat.mul_div_cancel_left _ hp]; omega
    have d2 : (n - 1) / 2 ^ (k + 1) = m := by
      have e1 : n - 1 = (2 ^ k - 1) + 2 ^ k * (2 * m) := by
        rw [hm, Nat.mul_add, Nat.mul_one]; omega
      have e0 : (2 ^ k - 1) / 2 ^ k = 0 := Nat.div_eq_of_lt (by omega)
      rw [e1, Nat.pow_succ, ← Nat.div_div_eq_div_mul, Nat.add_mul_div_left _ _ hp, e0]; omega
    have d3 := Nat.and_div_two_pow (a := n) (b := n - 1) (n := k + 1)
    rw [e, d1, d2, Nat.and_self, Nat.zero_div] at d3
    rw [hm, ← d3]; simp
  · rintro ⟨k, _, rfl⟩
    rw [Nat.and_two_pow_sub_one_eq_mod, Nat.mod_self]

theorem bits_and_i64_nat (a b : Nat) (ha : a < 9223372036854775808) (hb : b < 9223372036854775808) :
    bits .and .i64 (a : Int) (b : Int) = ((a &&& b : Nat) : Int) := by
  have hx : a &&& b < 2 ^ 63 := Nat.and_lt_two_pow _ (by omega)
  have h1 : (BitVec.ofInt 64 (a : Int)).toNat = a := by
    rw [BitVec.ofInt_natCast, BitVec.toNat_ofNat]; exact Nat.mod_eq_of_lt (by omega)
  have h2 : (BitVec.ofInt 64 (b : Int)).toNat = b := by
    rw [BitVec.ofInt_natCast, BitVec.toNat_ofNat]; exact Nat.mod_eq_of_lt (by omega)
  show IntKind.i64.wrap ((BitVec.ofInt 64 (a : Int) &&& BitVec.ofInt 64 (b : Int)).toNat : Int) = _
  rw [BitVec.toNat_and, h1, h2, IntKind.wrap_i64]
  omega

/-- The program's own test, in the walk's words. -/
theorem isPow_and (n : Int) (h0 : 0 < n) (h1 : n ≤ 9223372036854775807) : (bits .and .i64 n (n - 1) == 0) = isPow n := by
  obtain ⟨m, rfl⟩ : ∃ m : Nat, n = m := ⟨n.toNat, by omega⟩
  have e : ((m : Int) - 1) = ((m - 1 : Nat) : Int) := by omega
  rw [e, bits_and_i64_nat m (m - 1) (by omega) (by omega), Bool.eq_iff_iff, isPow_iff]
  have := and_pred m (by omega) (by omega)
  constructor
  · intro h
    obtain ⟨k, hk, rfl⟩ := this.1 (by simpa using h)
    exact ⟨k, hk, by simp⟩
  · rintro ⟨k, hk, h⟩
    have : m &&& (m - 1) = 0 := this.2 ⟨k, hk, by have h' : ((2 ^ k : Nat) : Int) = (2 : Int) ^ k := by simp
                                                  omega⟩
    simp [this]

theorem isPow_neg (n : Int) (h : n ≤ 0) : isPow n = false := by
  rcases Bool.eq_false_or_eq_true (isPow n) with h' | h'
  · obtain ⟨k, hk, rfl⟩ := (isPow_iff n).1 h'
    have := two_lt k hk
    omega
  · exact h'

/-- The de Bruijn product's place for a power of two. -/
def place (k : Nat) : Nat := 2 ^ k * 285870213051353865 % 18446744073709551616 / 288230376151711744
theorem place_lt (k : Nat) (hk : k < 63) : place k < 64 := (Lib.deBruijn64_at k (by omega)).1
theorem place_at (k : Nat) (hk : k < 63) : Lib.deBruijn64tab.getD (place k) 0 = k := (Lib.deBruijn64_at k (by omega)).2

theorem place_key (k : Nat) (hk : k < 63) :
    IntKind.u64.wrap (bits BinOp.and IntKind.u64 ((2 : Int) ^ k) (IntKind.u64.wrap (-((2 : Int) ^ k))) * 285870213051353865) / 288230376151711744 = (place k : Int) := by
  have hb := two_lt k hk
  have e : (2 : Int) ^ k = ((2 ^ k : Nat) : Int) := by simp
  have hlt : (2 : Nat) ^ k < 18446744073709551616 := by omega
  have hlow : (2 : Nat) ^ k &&& (18446744073709551616 - 2 ^ k) = 2 ^ k := by
    have := Lib.and_neg 64 k 0 (by simpa using hlt)
    simpa using this
  have e1 : IntKind.u64.wrap (-((2 ^ k : Nat) : Int)) = ((18446744073709551616 - 2 ^ k : Nat) : Int) := by rw [IntKind.wrap_u64]; omega
  rw [e, e1, bits_and_u64_nat _ _ hlt (by omega), hlow, IntKind.wrap_u64]
  unfold place
  omega

/-- The least power of two that is no less, for the numbers of which the document speaks. -/
def lst (n : Int) : Int := if n < 1 then 1 else if 1073741824 < n then 0 else (2 : Int) ^ Lib.bitLen (n - 1).toNat

theorem bitLen_two : ∀ (f x : Nat), x < 2 ^ f → x < 2 ^ Lib.bitLenAux f x ∧ (Lib.bitLenAux f x = 0 ∨ 2 ^ Lib.bitLenAux f x ≤ 2 * x) ∧ Lib.bitLenAux f x ≤ f := by
  intro f
  induction f with
  | zero => intro x h; simp [Lib.bitLenAux]; simpa using h
  | succ f ih =>
    intro x h
    unfold Lib.bitLenAux
    split
    · rename_i h0; subst h0; simp
    · rename_i h0
      have := ih (x / 2) (by rw [Nat.pow_succ] at h; omega)
      obtain ⟨a, b, c⟩ := this
      rw [Nat.add_comm 1, Nat.pow_succ]
      refine ⟨by omega, .inr ?_, by omega⟩
      rcases b with b | b
      · rw [b] at a ⊢; omega
      · omega

theorem lst_two (n : Int) (h1 : 1 ≤ n) (h2 : n ≤ 1073741824) : ∃ k : Nat, k ≤ 30 ∧ lst n = (2 : Int) ^ k ∧ n ≤ (2 : Int) ^ k ∧ (2 : Int) ^ k < 2 * n := by
  obtain ⟨m, rfl⟩ : ∃ m : Nat, n = m + 1 := ⟨(n - 1).toNat, by omega⟩
  have hm : m < 2 ^ 30 := by omega
  refine ⟨Lib.bitLen m, ?_, ?_, ?_⟩
  · exact Lib.bitLen_le m 30 (by omega) hm
  · unfold lst
    rw [if_neg (by omega), if_neg (by omega)]
    congr 2
    omega
  · have := bitLen_two 64 m (Nat.lt_trans hm (by decide))
    obtain ⟨a, b, _⟩ := this
    change m < 2 ^ Lib.bitLen m at a
    change Lib.bitLen m = 0 ∨ 2 ^ Lib.bitLen m ≤ 2 * m at b
    have e : (2 : Int) ^ Lib.bitLen m = ((2 ^ Lib.bitLen m : Nat) : Int) := by simp
    rw [e]
    rcases b with b | b
    · rw [b] at a ⊢; simp; omega
    · omega

theorem two_le_of_lt (j k : Nat) (h : (2 : Int) ^ j < 2 * (2 : Int) ^ k) : j ≤ k := by
  have h1 : (2 : Nat) ^ j < 2 * 2 ^ k := by
    have e1 : ((2 ^ j : Nat) : Int) = (2 : Int) ^ j := by simp
    have e2 : ((2 ^ k : Nat) : Int) = (2 : Int) ^ k := by simp
    omega
  have h2 : (2 : Nat) ^ j < 2 ^ (k + 1) := by rw [Nat.pow_succ]; omega
  have := (Nat.pow_lt_pow_iff_right (a := 2) (by decide)).1 h2
  omega

theorem lst_one (n : Int) (h1 : 1 ≤ n) (h2 : n ≤ 1073741824) (j : Nat) (ha : n ≤ (2 : Int) ^ j) (hb : (2 : Int) ^ j < 2 * n) : lst n = (2 : Int) ^ j := by
  obtain ⟨k, _, e, c, d⟩ := lst_two n h1 h2
  have : j = k := by
    have := two_le_of_lt j k (by omega)
    have := two_le_of_lt k j (by omega)
    omega
  rw [e, this]

set_option maxRecDepth 100000 in
theorem lenTab_size : (Lib.len8tab.size : Int) = 256 := by
  have : Lib.len8tab.size = 256 := by decide
  omega
theorem lenTab_at (y : Int) (h0 : 0 ≤ y) (h1 : y ≤ 255) (h : y.toNat < Lib.len8tab.size) : ((Lib.len8tab[y.toNat]'h).toNat : Int) = Lib.bitLen y.toNat ∧ Lib.bitLen y.toNat ≤ 8 := by
  refine ⟨?_, Lib.bitLen_le8' y h0 h1⟩
  rw [← Lib.len8_of y h0 h1]
  unfold Lib.len8
  rw [getElem?_pos Lib.len8tab y.toNat h]
  rfl
theorem lenSum (k a b c : Nat) (hk : k ≤ 56) (ha : a ≤ 8) (hc : c = a) (hb : b = k + a) : RowKit.wrap64 ((k : Int) + RowKit.wrap64 (c : Int)) = (b : Int) := by
  subst hc
  unfold RowKit.wrap64
  omega

/-- From one number to another one; a power of two up to a number; what a bound lets be. -/
def inB (n lo hi : Int) : Bool := decide (lo ≤ n) && decide (n ≤ hi)
def powB (n hi : Int) : Bool := isPow n && decide (n ≤ hi)
def bndB (s lo hi : Int) (p : Bool) : Bool := decide (lo ≤ s) && decide (s ≤ hi) && (!p || isPow s)

end Go.Proofs.YtpknfbgnclgpmaaGreatDoor

/-
  What the smallest functions of package shape do, one contract each: isPower, holds.
-/
namespace Go.Proofs.YtpknfbgnclgpmaaGreatDoor
open Go Go.RowKit

theorem ret_bool {a b : Bool} (h : a = b) : Ending.returned (.bool a) = .returned (.bool b) := by rw [h]
theorem ret_int {k : IntKind} {a b : Int} (h : a = b) : Ending.returned (.int k a) = .returned (.int k b) := by rw [h]

theorem ret_pair {a b : Int} {c d : Bool} (h : a = b) (h' : c = d) : Ending.returned (.tuple #[.int .i64 a, .bool c]) = .returned (.tuple #[.int .i64 b, .bool d]) := by rw [h, h']

theorem bstep {w w1 w2 : World} (h : Below w.heap.size w w1) (h2 : Below w1.heap.size w1 w2) : Below w.heap.size w w2 := h.trans (h2.mono h.size)
theorem bbox {w w1 : World} {o : Obj} (h : Below (w.alloc o).heap.size (w.alloc o) w1) : Below w.heap.size w w1 := ((Below.refl _ _).alloc (Nat.le_refl _) _).trans (h.mono (by simp))
theorem zbox {w w1 : World} {o : Obj} (h : Below (w.alloc o).heap.size (w.alloc o) w1) : w.heap.size < w1.heap.size := by have := h.size; simp at this; omega
theorem below_drewN {B : Nat} {w w' : World} (h : Below B w w') (n : Nat) : Below B w (w'.drewN n) := ⟨h.os, h.tape, h.output, h.size, h.block⟩

/-- The call's own first block still holds these cells, and nothing that was there has changed. -/
def Kp (w : World) (L : Array Value) (w1 : World) : Prop := (∀ o, w1.cell? ⟨w.heap.size, o, none⟩ = L[o]?) ∧ w.heap.size < w1.heap.size ∧ Below w.heap.size w w1
theorem Kp.box (w : World) (L : Array Value) (t : TypeId) : Kp w L (w.alloc (.cells L t)) :=
  ⟨fun o => World.cell?_alloc_mark w _ t (0, 0) o, by simp, (Below.refl _ _).alloc (Nat.le_refl _) _⟩
theorem Kp.step {w w1 w2 : World} {L : Array Value} (h : Kp w L w1) (hb : Below w1.heap.size w1 w2) : Kp w L w2 :=
  ⟨fun o => (hb.cell (p := ⟨w.heap.size, o, none⟩) h.2.1).trans (h.1 o), Nat.lt_of_lt_of_le h.2.1 hb.size, bstep h.2.2 hb⟩
theorem own_below {w w' : World} {base e sz n : Nat} {v : Value} {xs : List Value} (h : w.ownsRow base e sz v n xs) (hb : Below w.heap.size w w') : w'.ownsRow base e sz v n xs := by
  refine ⟨h.1, ?_⟩
  rcases h.2 with hn | ⟨g, cap, cur, rfl, hb', hgg, rest⟩
  · exact .inl hn
  · exact .inr ⟨g, cap, cur, rfl, hb', (hb.block g (Array.getElem?_eq_some_iff.1 hgg).1).trans hgg, rest⟩

/-- isPower. -/
theorem isPower_any (n : Int) (w : World) (h1 : n ≤ 9223372036854775807) :
    Calls Tryz.prog 128 #[.int .i64 n] w fun e w' => e = .returned (.bool (isPow n)) ∧ w = w' := by
  by_cases h0 : 0 < n
  · have hx := isPow_and n h0 h1
    go_enter Tryz.func128, Tryz.ntmps128
    go_wp2
    go_ret
    exact ⟨rfl, rfl⟩
  · go_enter Tryz.func128, Tryz.ntmps128
    go_wp2
    go_ret
    exact ⟨ret_bool (isPow_neg n (by omega)).symm, rfl⟩

theorem holds_any (s lo hi : Int) (p : Bool) (w : World) (h1 : s ≤ 9223372036854775807) :
    Calls Tryz.prog 106 #[.agg #[.int .i64 s, .int .i64 lo, .int .i64 hi, .bool p]] w fun e w' => e = .returned (.bool (bndB s lo hi p)) ∧ Below w.heap.size w w' := by
  go_enter Tryz.func106, Tryz.ntmps106
  go_wp2_with (go_at_call 128; refine (isPower_any _ _ h1).mono ?_; rintro e w' ⟨rfl, rfl⟩)
  · have ha : lo ≤ s := by assumption
    have hb : s ≤ hi := by assumption
    have hc : p = true := by assumption
    go_ret
    exact ⟨ret_bool (by simp [bndB, ha, hb, hc]), (Below.refl _ _).alloc (Nat.le_refl _) _⟩
  · have ha : lo ≤ s := by assumption
    have hb : s ≤ hi := by assumption
    have hc : ¬ p = true := by assumption
    go_ret
    exact ⟨ret_bool (by simp [bndB, ha, hb, hc]), (Below.refl _ _).alloc (Nat.le_refl _) _⟩
  · have ha : lo ≤ s := by assumption
    have hb : hi < s := by assumption
    have hb' : ¬ s ≤ hi := by omega
    go_ret
    exact ⟨ret_bool (by simp [bndB, hb']), (Below.refl _ _).alloc (Nat.le_refl _) _⟩
  · have ha : s < lo := by assumption
    have ha' : ¬ lo ≤ s := by omega
    go_ret
    exact ⟨ret_bool (by simp [bndB, ha']), (Below.refl _ _).alloc (Nat.le_refl _) _⟩

end Go.Proofs.YtpknfbgnclgpmaaGreatDoor

/-
  What Check and Size do, the program's and the document's: one contract each, over a machine's sizes as thirteen numbers.
-/
namespace Go.Proofs.YtpknfbgnclgpmaaGreatDoor
open Go Go.RowKit

/-- A machine's sizes: ten numbers, and three rooms. -/
structure Cfg where
  co : Int
  ho : Int
  se : Int
  wa : Int
  wo : Int
  li : Int
  po : Int
  ms : Int
  bu : Int
  wb : Int
  r0 : Int
  r1 : Int
  r2 : Int

/-- Each number is an int's. -/
def Cfg.fits (c : Cfg) : Prop := c.co ≤ 9223372036854775807 ∧ c.ho ≤ 9223372036854775807 ∧ c.se ≤ 9223372036854775807 ∧ c.wa ≤ 9223372036854775807 ∧ c.wo ≤ 9223372036854775807 ∧ c.li ≤ 9223372036854775807 ∧ c.po ≤ 9223372036854775807 ∧ c.ms ≤ 9223372036854775807 ∧ c.bu ≤ 9223372036854775807 ∧ c.wb ≤ 9223372036854775807 ∧ c.r0 ≤ 9223372036854775807 ∧ c.r1 ≤ 9223372036854775807 ∧ c.r2 ≤ 9223372036854775807

abbrev cval (co ho se wa wo li po ms bu wb r0 r1 r2 : Int) : Value := .agg #[.int .i64 co, .int .i64 ho, .int .i64 se, .int .i64 wa, .int .i64 wo, .int .i64 li, .int .i64 po, .int .i64 ms, .int .i64 bu, .int .i64 wb, .int .i64 r0, .int .i64 r1, .int .i64 r2]

def bcells (co ho se wa wo li po ms bu wb r0 r1 r2 : Int) : Array Value := #[
  .int .i64 co, .int .i64 1, .int .i64 64, .bool false, .int .i64 ho, .int .i64 1, .int .i64 16, .bool true, .int .i64 se, .int .i64 1, .int .i64 64, .bool true,
  .int .i64 wa, .int .i64 1, .int .i64 8, .bool false, .int .i64 wo, .int .i64 1, .int .i64 8, .bool true, .int .i64 li, .int .i64 1, .int .i64 1024, .bool true,
  .int .i64 po, .int .i64 0, .int .i64 8, .bool false, .int .i64 ms, .int .i64 1, .int .i64 8, .bool false, .int .i64 bu, .int .i64 1, .int .i64 16, .bool false,
  .int .i64 wb, .int .i64 1, .int .i64 8, .bool false, .int .i64 r0, .int .i64 1, .int .i64 64, .bool false, .int .i64 r1, .int .i64 1, .int .i64 64, .bool false, .int .i64 r2, .int .i64 1, .int .i64 64, .bool false]

theorem built40 (co ho se wa wo li po ms bu wb r0 r1 r2 : Int) : Tryz.prog.built 171 [
    (0, .agg #[.int .i64 co, .int .i64 1, .int .i64 64, .bool false]), (1, .agg #[.int .i64 ho, .int .i64 1, .int .i64 16, .bool true]), (2, .agg #[.int .i64 se, .int .i64 1, .int .i64 64, .bool true]),
    (3, .agg #[.int .i64 wa, .int .i64 1, .int .i64 8, .bool false]), (4, .agg #[.int .i64 wo, .int .i64 1, .int .i64 8, .bool true]), (5, .agg #[.int .i64 li, .int .i64 1, .int .i64 1024, .bool true]),
    (6, .agg #[.int .i64 po, .int .i64 0, .int .i64 8, .bool false]), (7, .agg #[.int .i64 ms, .int .i64 1, .int .i64 8, .bool false]), (8, .agg #[.int .i64 bu, .int .i64 1, .int .i64 16, .bool false]),
    (9, .agg #[.int .i64 wb, .int .i64 1, .int .i64 8, .bool false]), (10, .agg #[.int .i64 r0, .int .i64 1, .int .i64 64, .bool false]), (11, .agg #[.int .i64 r1, .int .i64 1, .int .i64 64, .bool false]), (12, .agg #[.int .i64 r2, .int .i64 1, .int .i64 64, .bool false])]
    = some (bcells co ho se wa wo li po ms bu wb r0 r1 r2) := by kernel_rfl

theorem wpList_built {P : Program} {ops : Array Oper} {rest : List Oper} {o : Oper} {a : Act} {w : World} {Q : Exit → Act → World → Prop} (hg : o.guard = none) (t : TypeId) (parts : Array (Nat × Operand)) (ho : o.op = .build t parts)
    (vs : Array Value) (hv : P.built t (parts.map fun (i, x) => (i, a.eval x)).toList = some vs)
    (h : wpList P ops Q rest (a.put o.dst (.agg vs)) w) : wpList P ops Q (o :: rest) a w :=
  wpList_build hg t parts ho (by rw [hv]; rfl) (by rw [hv]; exact h)

set_option maxRecDepth 100000 in
set_option maxHeartbeats 1000000 in
theorem bounds_any (co ho se wa wo li po ms bu wb r0 r1 r2 : Int) (w : World) :
    Calls Tryz.prog 105 #[cval co ho se wa wo li po ms bu wb r0 r1 r2] w fun e w' => e = .returned (.agg (bcells co ho se wa wo li po ms bu wb r0 r1 r2)) ∧ Below w.heap.size w w' := by
  go_enter Tryz.func105, Tryz.ntmps105
  go_wp2_with (first
    | ((with_reducible refine wpList_built (o := ⟨some 45, _, _, _, _, _⟩) rfl 171 _ rfl (bcells co ho se wa wo li po ms bu wb r0 r1 r2) ?bv ?_); (case bv => kernel_rfl))
    | ((with_reducible refine wpList_store_row (o := ⟨none, _, _, _, _, _⟩) rfl 171 (.tmp 2) (.tmp 45) rfl (w.heap.size + 1) (bcells co ho se wa wo li po ms bu wb r0 r1 r2) ?sx ?sy 171 ?old ?sg ?si ?so ?s1 ?_); (case sx => rfl); (case sy => rfl); (case sg => exact heap_alloc2_new _ _ _); (case si => kernel_rfl); (case so => rfl); (case s1 => kernel_rfl)))
  refine bodyPost_ret (v := .agg (bcells co ho se wa wo li po ms bu wb r0 r1 r2)) ?_ rfl ⟨rfl, ?_⟩
  · exact results_cell_row Tryz.results105 _ _ (w.heap.size + 1) 171 _ (0, 0) _ rfl (setRow_heap _ _ _ _ _ _ (heap_alloc2_new _ _ _)) Tryz.underlying171 rfl (by kernel_rfl)
  · exact below_setRow (((Below.refl _ _).alloc (Nat.le_refl _) _).alloc (by simp) _) (by omega) _

end Go.Proofs.YtpknfbgnclgpmaaGreatDoor

/-
  What Check does, the program's: one contract over a machine's sizes.
-/
namespace Go.Proofs.YtpknfbgnclgpmaaGreatDoor
open Go Go.RowKit

abbrev cv (c : Cfg) : Value := cval c.co c.ho c.se c.wa c.wo c.li c.po c.ms c.bu c.wb c.r0 c.r1 c.r2

/-- The j-th size, and its bound. -/
def bsz (c : Cfg) (j : Nat) : Int := [c.co, c.ho, c.se, c.wa, c.wo, c.li, c.po, c.ms, c.bu, c.wb, c.r0, c.r1, c.r2].getD j 0
def blo (j : Nat) : Int := ([1, 1, 1, 1, 1, 1, 0, 1, 1, 1, 1, 1, 1] : List Int).getD j 0
def bhi (j : Nat) : Int := ([64, 16, 64, 8, 8, 1024, 8, 8, 16, 8, 64, 64, 64] : List Int).getD j 0
def bpw (j : Nat) : Bool := [false, true, true, false, true, true, false, false, false, false, false, false, false].getD j false
def okAt (c : Cfg) (j : Nat) : Bool := bndB (bsz c j) (blo j) (bhi j) (bpw j)
/-- May the sizes be? -/
def okC (c : Cfg) : Bool := (List.range 13).all (okAt c)
/-- The error's number. -/
def chk (c : Cfg) : Int := if okC c = true then 0 else 1

theorem bsz_fits (c : Cfg) (hc : c.fits) (j : Nat) : bsz c j ≤ 9223372036854775807 := by
  obtain ⟨h0, h1, h2, h3, h4, h5, h6, h7, h8, h9, h10, h11, h12⟩ := hc
  unfold bsz
  match j with
  | 0 | 1 | 2 | 3 | 4 | 5 | 6 | 7 | 8 | 9 | 10 | 11 | 12 => simpa
  | j + 13 => simp

def bc (c : Cfg) : Array Value := bcells c.co c.ho c.se c.wa c.wo c.li c.po c.ms c.bu c.wb c.r0 c.r1 c.r2

theorem index40 (c : Cfg) (k : Nat) (hk : k < 13) (w : World) :
    (Instr.index 171 (.agg (bc c)) (.int .i64 k)).run Tryz.prog w = .ok (.agg #[.int .i64 (bsz c k), .int .i64 (blo k), .int .i64 (bhi k), .bool (bpw k)]) w := by
  rcases (show k = 0 ∨ k = 1 ∨ k = 2 ∨ k = 3 ∨ k = 4 ∨ k = 5 ∨ k = 6 ∨ k = 7 ∨ k = 8 ∨ k = 9 ∨ k = 10 ∨ k = 11 ∨ k = 12 by omega) with rfl | rfl | rfl | rfl | rfl | rfl | rfl | rfl | rfl | rfl | rfl | rfl | rfl
  all_goals kernel_rfl

theorem bounds_cfg (c : Cfg) (w : World) :
    Calls Tryz.prog 105 #[cv c] w fun e w' => e = .returned (.agg (bc c)) ∧ Below w.heap.size w w' := bounds_any _ _ _ _ _ _ _ _ _ _ _ _ _ w

theorem okC_all (c : Cfg) (h : ∀ j, j < 13 → okAt c j = true) : okC c = true := by
  unfold okC; rw [List.all_eq_true]; intro j hj; exact h j (List.mem_range.1 hj)
theorem okC_not (c : Cfg) (k : Nat) (hk : k < 13) (h : okAt c k = false) : okC c = false := by
  rcases Bool.eq_false_or_eq_true (okC c) with h' | h'
  · unfold okC at h'; rw [List.all_eq_true] at h'
    have := h' k (List.mem_range.2 hk)
    rw [h] at this; cases this
  · exact h'

set_option maxHeartbeats 1000000 in
theorem check_any (c : Cfg) (w : World) (hc : c.fits) :
    Calls Tryz.prog 65 #[cv c] w fun e w' => e = .returned (.int .i64 (chk c)) ∧ Below w.heap.size w w' := by
  have HC := Lib.hid hc
  clear hc
  go_enter Tryz.func65, Tryz.ntmps65
  go_wp2_with (go_at_call 105; refine (bounds_cfg c _).mono ?_; rintro e w1 ⟨rfl, hb1⟩)
  go_loopw [7] (fun i wr => ∃ k : Nat, k ≤ 13 ∧ i = .int .i64 k ∧ Hid (∀ j, j < k → okAt c j = true) ∧ Below w.heap.size w wr) (fun i _ => 13 - (intOf i).toNat)
  case atStart => exact ⟨0, by omega, rfl, Lib.hid (fun j hj => by omega), ((Below.refl _ _).alloc (Nat.le_refl _) _).trans (hb1.mono (by simp))⟩
  case round =>
    obtain ⟨k, hk, rfl, HJ, hb⟩ := hrel
    by_cases hlt : k < 13
    · have hi := fun w => index40 c k hlt w
      go_wp2_with (go_at_call 106; refine (holds_any _ _ _ _ _ (bsz_fits c HC.out k)).mono ?_; rintro e w2 ⟨rfl, hb2⟩)
      · have h : (!bndB (bsz c k) (blo k) (bhi k) (bpw k)) = true := by assumption
        have hno := okC_not c k hlt (by simpa [okAt] using h)
        go_ret
        exact ⟨ret_int (by simp [chk, hno]), hb.trans (((Below.refl _ _).alloc hb.size _).trans (hb2.mono (by have := hb.size; simp; omega)))⟩
      · have h : (!bndB (bsz c k) (blo k) (bhi k) (bpw k)) = false := by assumption
        have hB : Below w.heap.size w w2 := hb.trans (((Below.refl _ _).alloc hb.size _).trans (hb2.mono (by have := hb.size; simp; omega)))
        have HK : Hid (∀ j, j < k + 1 → okAt c j = true) := Lib.hid (fun j hj => by
          by_cases e : j = k
          · subst e; simpa [okAt] using h
          · exact HJ.out j (by omega))
        go_roundw
        case rel => exact ⟨k + 1, by omega, by go_num, HK, hB⟩
        case measure => simp [intOf]; omega
    · have hyes := okC_all c (fun j hj => HJ.out j (by omega))
      have HY := Lib.hid hyes
      clear hyes
      go_wp2
      go_ret
      exact ⟨ret_int (by simp [chk, HY.out]), hb⟩

end Go.Proofs.YtpknfbgnclgpmaaGreatDoor

/-
  What sizes that may be are, and how many addresses there are (Size itself: SizeP).
-/
namespace Go.Proofs.YtpknfbgnclgpmaaGreatDoor
open Go Go.RowKit

theorem bnd_in (s lo hi : Int) : bndB s lo hi false = inB s lo hi := by simp [bndB, inB]
theorem bnd_pow (s hi : Int) : bndB s 1 hi true = powB s hi := by
  unfold bndB powB
  rcases Bool.eq_false_or_eq_true (isPow s) with h | h
  · obtain ⟨k, hk, rfl⟩ := (isPow_iff s).1 h
    have := two_lt k hk
    simp [h]
    intro _
    omega
  · simp [h]

/-- The room of each network, by its number. -/
def room (c : Cfg) (k : Nat) : Int := [c.r0, c.r1, c.r2].getD k 0

theorem okC_eq (c : Cfg) : okC c = (inB c.co 1 64 && powB c.ho 16 && powB c.se 64 && inB c.wa 1 8 && powB c.wo 8 && powB c.li 1024 && inB c.po 0 8 && inB c.ms 1 8 && inB c.bu 1 16 && inB c.wb 1 8 && (inB (room c 0) 1 64 && inB (room c 1) 1 64 && inB (room c 2) 1 64)) := by
  unfold okC
  rw [show List.range 13 = [0, 1, 2, 3, 4, 5, 6, 7, 8, 9, 10, 11, 12] by decide]
  simp only [List.all_cons, List.all_nil, okAt, bsz, blo, bhi, bpw, room, List.getD_cons_zero, List.getD_cons_succ, bnd_in, bnd_pow, Bool.and_assoc, Bool.and_true]

theorem chk_ok (c : Cfg) (h : okC c = true) : chk c = 0 := by simp [chk, h]
theorem chk_no (c : Cfg) (h : okC c = false) : chk c = 1 := by simp [chk, h]

/-- How many addresses there are. -/
def sz (c : Cfg) : Int := if okC c = true then c.wo * c.li else 0

theorem inB_of {n lo hi : Int} (h : inB n lo hi = true) : lo ≤ n ∧ n ≤ hi := by simpa [inB] using h
theorem powB_of {n hi : Int} (h : powB n hi = true) : 1 ≤ n ∧ n ≤ hi := by
  unfold powB at h
  simp at h
  obtain ⟨k, hk, rfl⟩ := (isPow_iff n).1 h.1
  have := two_lt k hk
  omega
theorem sz_bound (c : Cfg) (h : okC c = true) : (1 ≤ c.wo ∧ c.wo ≤ 8) ∧ 1 ≤ c.li ∧ c.li ≤ 1024 := by
  rw [okC_eq] at h
  simp at h
  exact ⟨powB_of (by simp [h]), powB_of (by simp [h])⟩
theorem mul_bound (a b : Int) (ha : 1 ≤ a ∧ a ≤ 8) (hb : 1 ≤ b ∧ b ≤ 1024) : 1 ≤ a * b ∧ a * b ≤ 8192 := by
  have h1 : 1 * 1 ≤ a * b := Int.mul_le_mul ha.1 hb.1 (by omega) (by omega)
  have h2 : a * b ≤ 8 * 1024 := Int.mul_le_mul ha.2 hb.2 (by omega) (by omega)
  omega

end Go.Proofs.YtpknfbgnclgpmaaGreatDoor

/-
  What package shape does of powers of two, one contract each: TrailingZeros, Power.
-/
namespace Go.Proofs.YtpknfbgnclgpmaaGreatDoor
open Go Go.RowKit

/-- The de Bruijn table lies where the program's start laid it. -/
def Tab (w : World) : Prop := ∀ j, j < 64 → w.cell? ⟨1, j, none⟩ = some (.int .u8 (Lib.deBruijn64tab.getD j 0 : Nat))

theorem Tab.keeps {w w' : World} (h : Tab w) (h1 : 1 < w.heap.size) (hb : Below w.heap.size w w') : Tab w' := fun j hj => by
  rw [hb.cell (p := ⟨1, j, none⟩) h1]; exact h j hj

theorem tz64_core (k idx : Nat) (x : Int) (w : World) (hx0 : (x == 0) = false) (hk : k < 63)
    (key : IntKind.u64.wrap (bits BinOp.and IntKind.u64 x (IntKind.u64.wrap (-x)) * 285870213051353865) / 288230376151711744 = (idx : Int))
    (hi : idx < 64) (hcell : w.cell? ⟨1, idx, none⟩ = some (.int .u8 k)) :
    Calls Tryz.prog 150 #[.int .u64 x] w fun e w' => e = .returned (.int .i64 k) ∧ w = w' := by
  go_enter Tryz.func150, Tryz.ntmps150
  go_wp2_with (simp only [key])
  go_ret
  exact ⟨rfl, rfl⟩

theorem tz64_any (k : Nat) (w : World) (hk : k < 63) (hT : Tab w) :
    Calls Tryz.prog 150 #[.int .u64 ((2 : Int) ^ k)] w fun e w' => e = .returned (.int .i64 k) ∧ w = w' := by
  have hb := two_lt k hk
  have hc := hT (place k) (place_lt k hk)
  rw [place_at k hk] at hc
  exact tz64_core k (place k) _ w (by simp; omega) hk (place_key k hk) (place_lt k hk) hc

theorem tz_core (k : Nat) (x : Int) (w : World) (H : Calls Tryz.prog 150 #[.int .u64 x] w fun e w' => e = .returned (.int .i64 k) ∧ w = w') :
    Calls Tryz.prog 143 #[.int .u64 x] w fun e w' => e = .returned (.int .i64 k) ∧ w = w' := by
  have HH := Lib.hid H
  clear H
  go_enter Tryz.func143, Tryz.ntmps143
  go_wp2_with (go_at_call 150; refine HH.out.mono ?_; rintro e w' ⟨rfl, rfl⟩)
  go_ret
  exact ⟨rfl, rfl⟩

theorem power_core (k : Nat) (x : Int) (w : World) (hx : 0 < x) (hx1 : x ≤ 4611686018427387904) (hp : isPow x = true) (H : Calls Tryz.prog 143 #[.int .u64 x] w fun e w' => e = .returned (.int .i64 k) ∧ w = w') :
    Calls Tryz.prog 137 #[.int .i64 x] w fun e w' => e = .returned (.tuple #[.int .i64 k, .bool true]) ∧ w = w' := by
  have HH := Lib.hid H
  clear H
  go_enter Tryz.func137, Tryz.ntmps137
  go_wp2_with (first | (go_at_call 128; refine (isPower_any _ _ (by omega)).mono ?_; rintro e w' ⟨rfl, rfl⟩) | (go_at_call 143; refine HH.out.mono ?_; rintro e w' ⟨rfl, rfl⟩))
  go_ret2
  exact ⟨rfl, rfl⟩

/-- Power, the program's. -/
theorem power_any (n : Int) (w : World) (h1 : n ≤ 9223372036854775807) (hT : Tab w) :
    Calls Tryz.prog 137 #[.int .i64 n] w fun e w' => e = .returned (.tuple #[.int .i64 (lg n), .bool (isPow n)]) ∧ w = w' := by
  rcases Bool.eq_false_or_eq_true (isPow n) with h | h
  · obtain ⟨k, hk, rfl⟩ := (isPow_iff n).1 h
    have hb := two_lt k hk
    rw [lg_two k hk, h]
    exact power_core k _ w hb.1 hb.2 h (tz_core k _ w (tz64_any k w hk hT))
  · rw [lg_no n h, h]
    clear hT
    go_enter Tryz.func137, Tryz.ntmps137
    go_wp2_with (go_at_call 128; refine (isPower_any _ _ h1).mono ?_; rintro e w' ⟨rfl, rfl⟩)
    go_ret2
    exact ⟨rfl, rfl⟩

end Go.Proofs.YtpknfbgnclgpmaaGreatDoor

/-
  What the smallest functions of package split do, one contract each: within, cutBy, above, below, join.
-/
namespace Go.Proofs.YtpknfbgnclgpmaaGreatDoor
open Go Go.RowKit

/-- The de Bruijn table stands, and lies below the heap's end. -/
def Tb (w : World) : Prop := Tab w ∧ 1 < w.heap.size
theorem Tb.keeps {w w' : World} (h : Tb w) (hb : Below w.heap.size w w') : Tb w' := ⟨h.1.keeps h.2 hb, Nat.lt_of_lt_of_le h.2 hb.size⟩

/-- Is a number one of the first so many from 0 on? -/
def inR (n m : Int) : Bool := decide (0 ≤ n) && decide (n < m)

theorem within_any (n m : Int) (w : World) :
    Calls Tryz.prog 107 #[.int .i64 n, .int .i64 m] w fun e w' => e = .returned (.bool (inR n m)) ∧ w = w' := by
  go_enter Tryz.func107, Tryz.ntmps107
  go_wp2
  · have h : 0 ≤ n := by assumption
    go_ret
    exact ⟨ret_bool (by simp [inR, h]), rfl⟩
  · have h : n < 0 := by assumption
    go_ret
    exact ⟨ret_bool (by simp [inR]; omega), rfl⟩

theorem cutBy_any (n : Int) (w : World) (h1 : n ≤ 9223372036854775807) (hT : Tb w) :
    Calls Tryz.prog 129 #[.int .i64 n] w fun e w' => e = .returned (.agg #[.int .i64 (lg n)]) ∧ Below w.heap.size w w' := by
  have HT := Lib.hid hT
  clear hT
  go_enter Tryz.func129, Tryz.ntmps129
  go_wp2_with (go_at_call 137; refine (power_any _ _ h1 (HT.out.keeps ((Below.refl _ _).alloc (Nat.le_refl _) _)).1).mono ?_; rintro e w' ⟨rfl, rfl⟩)
  exact bodyPost_ret (v := .agg #[.int .i64 (lg n)]) (by simp [results, Tryz.results129, go_sem]) rfl ⟨rfl, (Below.refl _ _).alloc (Nat.le_refl _) _⟩

theorem two_pow_cast (k : Nat) : ((2 ^ k : Nat) : Int) = (2 : Int) ^ k := by simp

theorem bits_or_i64_nat (a b : Nat) (ha : a < 9223372036854775808) (hb : b < 9223372036854775808) :
    bits .or .i64 (a : Int) (b : Int) = ((a ||| b : Nat) : Int) := by
  have hx : a ||| b < 2 ^ 63 := Nat.or_lt_two_pow (by omega) (by omega)
  have h1 : (BitVec.ofInt 64 (a : Int)).toNat = a := by
    rw [BitVec.ofInt_natCast, BitVec.toNat_ofNat]; exact Nat.mod_eq_of_lt (by omega)
  have h2 : (BitVec.ofInt 64 (b : Int)).toNat = b := by
    rw [BitVec.ofInt_natCast, BitVec.toNat_ofNat]; exact Nat.mod_eq_of_lt (by omega)
  show IntKind.i64.wrap ((BitVec.ofInt 64 (a : Int) ||| BitVec.ofInt 64 (b : Int)).toNat : Int) = _
  rw [BitVec.toNat_or, h1, h2, IntKind.wrap_i64]
  omega

theorem low_bits (n : Int) (k : Nat) (hk : k < 63) (hn : 0 ≤ n) (hn1 : n ≤ 9223372036854775807) :
    bits BinOp.and IntKind.i64 n (wrap64 (wrap64 (2 ^ k) - 1)) = n % 2 ^ k := by
  obtain ⟨m, rfl⟩ : ∃ m : Nat, n = m := ⟨n.toNat, by omega⟩
  have hb := two_lt k hk
  have e := two_pow_cast k
  have hp : 0 < 2 ^ k := Nat.two_pow_pos k
  have e1 : wrap64 (wrap64 (2 ^ k) - 1) = ((2 ^ k - 1 : Nat) : Int) := by unfold wrap64; omega
  rw [e1, bits_and_i64_nat m (2 ^ k - 1) (by omega) (by omega), Nat.and_two_pow_sub_one_eq_mod, ← e]
  omega

theorem both_bits (n l : Int) (k : Nat) (hk : k < 63) (hn : 0 ≤ n) (hl : 0 ≤ l) (hl2 : l < 2 ^ k) (hm : n * 2 ^ k ≤ 4611686018427387904) :
    bits BinOp.or IntKind.i64 (wrap64 (n * 2 ^ k)) l = n * 2 ^ k + l := by
  obtain ⟨m, rfl⟩ : ∃ m : Nat, n = m := ⟨n.toNat, by omega⟩
  obtain ⟨j, rfl⟩ : ∃ m : Nat, l = m := ⟨l.toNat, by omega⟩
  have hb := two_lt k hk
  have e := two_pow_cast k
  rw [← e] at hl2 hm ⊢
  have em : ((m : Int) * ((2 ^ k : Nat) : Int)) = ((2 ^ k * m : Nat) : Int) := by rw [Nat.mul_comm]; simp
  rw [em] at hm ⊢
  have e1 : wrap64 ((2 ^ k * m : Nat) : Int) = ((2 ^ k * m : Nat) : Int) := by unfold wrap64; omega
  rw [e1, bits_or_i64_nat _ _ (by omega) (by omega), ← Nat.two_pow_add_eq_or_of_lt (by omega)]
  omega

theorem pow_of {s : Int} (hs : isPow s = true) : ∃ k : Nat, k < 63 ∧ s = (2 : Int) ^ k ∧ lg s = k := by
  obtain ⟨k, hk, rfl⟩ := (isPow_iff s).1 hs
  exact ⟨k, hk, rfl, lg_two k hk⟩

theorem above_any (n s : Int) (w : World) (hs : isPow s = true) :
    Calls Tryz.prog 130 #[.agg #[.int .i64 (lg s)], .int .i64 n] w fun e w' => e = .returned (.int .i64 (n / s)) ∧ Below w.heap.size w w' := by
  obtain ⟨k, hk, rfl, e⟩ := pow_of hs
  rw [e]
  clear e hs
  go_enter Tryz.func130, Tryz.ntmps130
  go_wp2
  go_ret
  exact ⟨rfl, (Below.refl _ _).alloc (Nat.le_refl _) _⟩

theorem below_any (n s : Int) (w : World) (hs : isPow s = true) (hn : 0 ≤ n) (hn1 : n ≤ 9223372036854775807) :
    Calls Tryz.prog 131 #[.agg #[.int .i64 (lg s)], .int .i64 n] w fun e w' => e = .returned (.int .i64 (n % s)) ∧ Below w.heap.size w w' := by
  obtain ⟨k, hk, rfl, e⟩ := pow_of hs
  rw [e]
  clear e hs
  go_enter Tryz.func131, Tryz.ntmps131
  go_wp2
  go_ret
  exact ⟨ret_int (low_bits n k hk hn hn1), (Below.refl _ _).alloc (Nat.le_refl _) _⟩

/-- How a number is cut by a size, as function values. -/
abbrev fAbove (s : Int) : Value := .func (.func 130) #[.agg #[.int .i64 (lg s)]] #[]
abbrev fBelow (s : Int) : Value := .func (.func 131) #[.agg #[.int .i64 (lg s)]] #[]

theorem parts_any (n : Int) (w : World) (h1 : n ≤ 9223372036854775807) (hT : Tb w) :
    Calls Tryz.prog 108 #[.int .i64 n] w fun e w' => e = .returned (.tuple #[fAbove n, fBelow n]) ∧ Below w.heap.size w w' := by
  have HT := Lib.hid hT
  clear hT
  have hmf : ∀ (fn : Fn) (first cap : Array Value) (w : World), (Instr.makeFunc fn first cap).run Tryz.prog w = .ok (.func fn first cap) w := fun _ _ _ _ => rfl
  go_enter Tryz.func108, Tryz.ntmps108
  go_wp2_with (go_at_call 129; refine (cutBy_any _ _ h1 HT.out).mono ?_; rintro e w1 ⟨rfl, hb1⟩)
  go_region
  all_goals (try go_wp2)
  all_goals (go_ret2; exact ⟨rfl, (hb1.alloc hb1.size _).drew⟩)

end Go.Proofs.YtpknfbgnclgpmaaGreatDoor

/-
  What Line of package split does, over a machine's sizes and any number.
-/
namespace Go.Proofs.YtpknfbgnclgpmaaGreatDoor
open Go Go.RowKit

/-- What sizes that may be are. -/
theorem ok_pows (c : Cfg) (h : okC c = true) : (isPow c.wo = true ∧ 1 ≤ c.wo ∧ c.wo ≤ 8) ∧ (isPow c.ho = true ∧ 1 ≤ c.ho ∧ c.ho ≤ 16) ∧ (isPow c.se = true ∧ 1 ≤ c.se ∧ c.se ≤ 64) ∧ (isPow c.li = true ∧ 1 ≤ c.li ∧ c.li ≤ 1024) := by
  rw [okC_eq] at h
  simp at h
  have p : ∀ {n hi : Int}, powB n hi = true → isPow n = true ∧ 1 ≤ n ∧ n ≤ hi := fun {n hi} h => ⟨by unfold powB at h; simp at h; exact h.1, (powB_of h).1, (powB_of h).2⟩
  exact ⟨p (by simp [h]), p (by simp [h]), p (by simp [h]), p (by simp [h])⟩

/-- Is there such a line? Such an address? -/
def lnOk (c : Cfg) (l : Int) : Bool := okC c && inR l c.li
def adOk (c : Cfg) (a : Int) : Bool := inR a (sz c)
def joOk (c : Cfg) (l x : Int) : Bool := lnOk c l && inR x c.wo
def tgOk (c : Cfg) (s t : Int) : Bool := lnOk c t && inR s c.se && inR (t * c.se + s) c.li

def adL (c : Cfg) (a : Int) : Int := if adOk c a = true then a / c.wo else 0
def adW (c : Cfg) (a : Int) : Int := if adOk c a = true then a % c.wo else 0
def adE (c : Cfg) (a : Int) : Int := if adOk c a = true then 0 else 1
def lnH (c : Cfg) (l : Int) : Int := if lnOk c l = true then l % c.ho else 0
def lnS (c : Cfg) (l : Int) : Int := if lnOk c l = true then l % c.se else 0
def lnT (c : Cfg) (l : Int) : Int := if lnOk c l = true then l / c.se else 0
def lnE (c : Cfg) (l : Int) : Int := if lnOk c l = true then 0 else 1
def joA (c : Cfg) (l x : Int) : Int := if joOk c l x = true then l * c.wo + x else 0
def joE (c : Cfg) (l x : Int) : Int := if joOk c l x = true then 0 else 1
def tgL (c : Cfg) (s t : Int) : Int := if tgOk c s t = true then t * c.se + s else 0
def tgE (c : Cfg) (s t : Int) : Int := if tgOk c s t = true then 0 else 1

theorem inR_of {n m : Int} (h : inR n m = true) : 0 ≤ n ∧ n < m := by simpa [inR] using h
theorem ok_of_adOk {c : Cfg} {a : Int} (h : adOk c a = true) : okC c = true ∧ 0 ≤ a ∧ a < c.wo * c.li := by
  unfold adOk at h
  have := inR_of h
  rcases Bool.eq_false_or_eq_true (okC c) with h' | h'
  · exact ⟨h', this.1, by simpa [sz, h'] using this.2⟩
  · simp [sz, h'] at this; omega
theorem ok_of_lnOk {c : Cfg} {l : Int} (h : lnOk c l = true) : okC c = true ∧ 0 ≤ l ∧ l < c.li := by
  unfold lnOk at h
  simp at h
  exact ⟨h.1, inR_of h.2⟩
theorem fits_wo {c : Cfg} (h : c.fits) : c.wo ≤ 9223372036854775807 := by unfold Cfg.fits at h; omega
theorem fits_ho {c : Cfg} (h : c.fits) : c.ho ≤ 9223372036854775807 := by unfold Cfg.fits at h; omega
theorem fits_se {c : Cfg} (h : c.fits) : c.se ≤ 9223372036854775807 := by unfold Cfg.fits at h; omega

theorem hasLine_any (c : Cfg) (l : Int) (w : World) (hc : c.fits) :
    Calls Tryz.prog 132 #[cv c, .int .i64 l] w fun e w' => e = .returned (.bool (lnOk c l)) ∧ Below w.heap.size w w' := by
  have HC := Lib.hid hc
  clear hc
  rcases Bool.eq_false_or_eq_true (okC c) with h | h
  · have h0 := chk_ok c h
    have HL : Hid (lnOk c l = inR l c.li) := Lib.hid (by simp [lnOk, h])
    clear h
    go_enter Tryz.func132, Tryz.ntmps132
    go_wp2_with (first
      | (go_at_call 65; refine (check_any c _ HC.out).mono ?_; rintro e w1 ⟨rfl, hb1⟩; have hcl := fun o => hb1.cell (p := ⟨w.heap.size, o, none⟩) (by simp))
      | (go_at_call 107; refine (within_any _ _ _).mono ?_; rintro e w2 ⟨rfl, rfl⟩))
    go_ret
    exact ⟨ret_bool HL.out.symm, ((Below.refl _ _).alloc (Nat.le_refl _) _).trans (hb1.mono (by simp))⟩
  · have h0 := chk_no c h
    have HL : Hid (lnOk c l = false) := Lib.hid (by simp [lnOk, h])
    clear h
    go_enter Tryz.func132, Tryz.ntmps132
    go_wp2_with (go_at_call 65; refine (check_any c _ HC.out).mono ?_; rintro e w1 ⟨rfl, hb1⟩)
    go_ret
    exact ⟨ret_bool HL.out.symm, ((Below.refl _ _).alloc (Nat.le_refl _) _).trans (hb1.mono (by simp))⟩

theorem ret3 {a b c a' b' c' : Int} (h : a = a') (h' : b = b') (h'' : c = c') : Ending.returned (.tuple #[.int .i64 a, .int .i64 b, .int .i64 c]) = .returned (.tuple #[.int .i64 a', .int .i64 b', .int .i64 c']) := by rw [h, h', h'']
theorem ret2 {a b a' b' : Int} (h : a = a') (h' : b = b') : Ending.returned (.tuple #[.int .i64 a, .int .i64 b]) = .returned (.tuple #[.int .i64 a', .int .i64 b']) := by rw [h, h']
theorem ret4 {a b c d a' b' c' d' : Int} (h : a = a') (h' : b = b') (h'' : c = c') (h''' : d = d') : Ending.returned (.tuple #[.int .i64 a, .int .i64 b, .int .i64 c, .int .i64 d]) = .returned (.tuple #[.int .i64 a', .int .i64 b', .int .i64 c', .int .i64 d']) := by rw [h, h', h'', h''']


end Go.Proofs.YtpknfbgnclgpmaaGreatDoor

/-
  What Size does, the program's.
-/
namespace Go.Proofs.YtpknfbgnclgpmaaGreatDoor
open Go Go.RowKit

theorem size_any (c : Cfg) (w : World) (hc : c.fits) :
    Calls Tryz.prog 66 #[cv c] w fun e w' => e = .returned (.int .i64 (sz c)) ∧ Below w.heap.size w w' := by
  have HC := Lib.hid hc
  clear hc
  rcases Bool.eq_false_or_eq_true (okC c) with h | h
  · have h0 := chk_ok c h
    have hb := sz_bound c h
    have hm := mul_bound _ _ hb.1 hb.2
    have HS : Hid (sz c = c.wo * c.li) := Lib.hid (by simp [sz, h])
    clear h hb
    go_enter Tryz.func66, Tryz.ntmps66
    go_wp2_with (go_at_call 65; refine (check_any c _ HC.out).mono ?_; rintro e w1 ⟨rfl, hb1⟩; have hcl := fun o => hb1.cell (p := ⟨w.heap.size, o, none⟩) (by simp))
    go_ret
    exact ⟨ret_int HS.out.symm, ((Below.refl _ _).alloc (Nat.le_refl _) _).trans (hb1.mono (by simp))⟩
  · have h0 := chk_no c h
    have HS : Hid (sz c = 0) := Lib.hid (by simp [sz, h])
    clear h
    go_enter Tryz.func66, Tryz.ntmps66
    go_wp2_with (go_at_call 65; refine (check_any c _ HC.out).mono ?_; rintro e w1 ⟨rfl, hb1⟩)
    go_ret
    exact ⟨ret_int HS.out.symm, ((Below.refl _ _).alloc (Nat.le_refl _) _).trans (hb1.mono (by simp))⟩

end Go.Proofs.YtpknfbgnclgpmaaGreatDoor

/-
  What join and joined of package split do, one contract each.
-/
namespace Go.Proofs.YtpknfbgnclgpmaaGreatDoor
open Go Go.RowKit

theorem join_any (n l s : Int) (w : World) (hs : isPow s = true) (hn : 0 ≤ n) (hl : 0 ≤ l) (hl2 : l < s) (hm : n * s ≤ 4611686018427387904) :
    Calls Tryz.prog 138 #[.agg #[.int .i64 (lg s)], .int .i64 n, .int .i64 l] w fun e w' => e = .returned (.int .i64 (n * s + l)) ∧ Below w.heap.size w w' := by
  obtain ⟨k, hk, rfl, e⟩ := pow_of hs
  rw [e]
  clear e hs
  go_enter Tryz.func138, Tryz.ntmps138
  go_wp2
  go_ret
  exact ⟨ret_int (both_bits n l k hk hn hl hl2 hm), (Below.refl _ _).alloc (Nat.le_refl _) _⟩

abbrev fJoin (s : Int) : Value := .func (.func 138) #[.agg #[.int .i64 (lg s)]] #[]

theorem joined_any (n : Int) (w : World) (h1 : n ≤ 9223372036854775807) (hT : Tb w) :
    Calls Tryz.prog 133 #[.int .i64 n] w fun e w' => e = .returned (fJoin n) ∧ Below w.heap.size w w' := by
  have HT := Lib.hid hT
  clear hT
  have hmf : ∀ (fn : Fn) (first cap : Array Value) (w : World), (Instr.makeFunc fn first cap).run Tryz.prog w = .ok (.func fn first cap) w := fun _ _ _ _ => rfl
  go_enter Tryz.func133, Tryz.ntmps133
  go_wp2_with (go_at_call 129; refine (cutBy_any _ _ h1 HT.out).mono ?_; rintro e w1 ⟨rfl, hb1⟩)
  go_ret
  exact ⟨rfl, hb1⟩

end Go.Proofs.YtpknfbgnclgpmaaGreatDoor

/-
  What Join of package split does, over a machine's sizes and any numbers.
-/
namespace Go.Proofs.YtpknfbgnclgpmaaGreatDoor
open Go Go.RowKit

theorem joOk_no1 {c : Cfg} {l x : Int} (h : lnOk c l = false) : joA c l x = 0 ∧ joE c l x = 1 := by simp [joA, joE, joOk, h]
theorem joOk_no2 {c : Cfg} {l x : Int} (h : inR x c.wo = false) : joA c l x = 0 ∧ joE c l x = 1 := by simp [joA, joE, joOk, h]
theorem joOk_yes {c : Cfg} {l x : Int} (h : lnOk c l = true) (h' : inR x c.wo = true) : joA c l x = l * c.wo + x ∧ joE c l x = 0 := by simp [joA, joE, joOk, h, h']
theorem mul_lt_of {l n a b : Int} (h : l < n) (hn : n ≤ a) (hb : 1 ≤ b) : l * b ≤ a * b := Int.mul_le_mul_of_nonneg_right (by omega) (by omega)

theorem joinS_any (c : Cfg) (l x : Int) (w : World) (hc : c.fits) (hT : Tb w) :
    Calls Tryz.prog 116 #[cv c, .int .i64 l, .int .i64 x] w fun e w' => e = .returned (.tuple #[.int .i64 (joA c l x), .int .i64 (joE c l x)]) ∧ Below w.heap.size w w' := by
  have HC := Lib.hid hc
  have HT := Lib.hid hT
  clear hT
  have hwo := fits_wo hc
  clear hc
  rcases Bool.eq_false_or_eq_true (lnOk c l) with h | h
  · rcases Bool.eq_false_or_eq_true (inR x c.wo) with h' | h'
    · have HL := Lib.hid (joOk_yes h h')
      obtain ⟨hok, h0, h1⟩ := ok_of_lnOk h
      obtain ⟨g0, g1⟩ := inR_of h'
      have hp := ok_pows c hok
      have HP := Lib.hid hp.1.1
      have hm : l * c.wo ≤ 4611686018427387904 := by
        have := mul_lt_of (l := l) (n := c.li) (a := 1024) (b := c.wo) h1 hp.2.2.2.2.2 hp.1.2.1
        have := hp.1.2.2
        omega
      have HM := Lib.hid hm
      clear hok hp hm
      go_enter Tryz.func116, Tryz.ntmps116
      go_wp2_with (first
        | (go_at_call 132; refine (hasLine_any c _ _ HC.out).mono ?_; rintro e w1 ⟨rfl, hb1⟩; have hcl := fun o => hb1.cell (p := ⟨w.heap.size, o, none⟩) (by simp); have hbw : Below w.heap.size w w1 := bbox hb1; have hz1 := zbox hb1)
        | (go_at_call 107; refine (within_any _ _ _).mono ?_; rintro e w2 ⟨rfl, rfl⟩)
        | (go_at_call 133; refine (joined_any _ _ hwo (HT.out.keeps hbw)).mono ?_; rintro e w3 ⟨rfl, hb3⟩)
        | (go_at_call 138; refine (join_any _ _ _ _ HP.out h0 g0 g1 HM.out).mono ?_; rintro e w4 ⟨rfl, hb4⟩))
      go_ret2
      exact ⟨ret2 HL.out.1.symm HL.out.2.symm, bstep (bstep hbw hb3) hb4⟩
    · have HL := Lib.hid (joOk_no2 (c := c) (l := l) (x := x) h')
      go_enter Tryz.func116, Tryz.ntmps116
      go_wp2_with (first
        | (go_at_call 132; refine (hasLine_any c _ _ HC.out).mono ?_; rintro e w1 ⟨rfl, hb1⟩; have hcl := fun o => hb1.cell (p := ⟨w.heap.size, o, none⟩) (by simp); have hbw : Below w.heap.size w w1 := bbox hb1; have hz1 := zbox hb1)
        | (go_at_call 107; refine (within_any _ _ _).mono ?_; rintro e w2 ⟨rfl, rfl⟩))
      go_ret2
      exact ⟨ret2 HL.out.1.symm HL.out.2.symm, hbw⟩
  · have HL := Lib.hid (joOk_no1 (c := c) (l := l) (x := x) h)
    go_enter Tryz.func116, Tryz.ntmps116
    go_wp2_with (go_at_call 132; refine (hasLine_any c _ _ HC.out).mono ?_; rintro e w1 ⟨rfl, hb1⟩)
    go_ret2
    exact ⟨ret2 HL.out.1.symm HL.out.2.symm, bbox hb1⟩

end Go.Proofs.YtpknfbgnclgpmaaGreatDoor

/-
  What every card of a seat leans on: the program's own settings, and what an int that comes in may be.
-/
namespace Go.Proofs.YtpknfbgnclgpmaaGreatDoor
open Go.ChangeShapes Go.WideShapes Go.ChangeAt Go.RowKit

theorem own : ownKnob Tryz.prog.godebug = none := by kernel_rfl
theorem laidOut : laidOutB Tryz.prog = true := by kernel_rfl

theorem int_range {n : Int} (h : (Lit.int .i64 n).wf = true) : -9223372036854775808 ≤ n ∧ n ≤ 9223372036854775807 := by
  have e : IntKind.i64.min = -9223372036854775808 := by decide
  have h' : IntKind.i64.min ≤ n ∧ n ≤ 9223372036854775807 := by simpa [Lit.wf] using h
  rwa [e] at h'

end Go.Proofs.YtpknfbgnclgpmaaGreatDoor

/-
  A machine's sizes that come in by value are thirteen numbers, each an int's.
-/
namespace Go.Proofs.YtpknfbgnclgpmaaGreatDoor
open Go.ChangeShapes Go.WideShapes Go.ChangeAt Go.RowKit

theorem cells3 : Tryz.prog.cellsOf 3 = 1 := by kernel_rfl
theorem cells22 : Tryz.prog.cellsOf 22 = 3 := by kernel_rfl
theorem cells24 : Tryz.prog.cellsOf 24 = 13 := by kernel_rfl

theorem int_cell {H : Type} {enc : TypeId × Value → H} {W : World} {m : Nat} {v : Value} {l : List Value} {y : DataW H × List MemPlace} (hl : l.take 1 = [v])
    (h : DataW.trod enc Tryz.prog W 0 (fun _ => true) true m 3 (l.take (Tryz.prog.cellsOf 3)) = some y) : ∃ n : Int, v = .int .i64 n ∧ n ≤ 9223372036854775807 := by
  rw [cells3, hl] at h
  obtain ⟨n, e, _, hw⟩ := DataW.trod_int Tryz.underlying3 h
  simp at e
  exact ⟨n, e, (int_range hw).2⟩

set_option maxRecDepth 100000 in
theorem open_cfg {H : Type} {enc : TypeId × Value → H} {W : World} {base : Nat} {v : Value} {d : DataW H} {p : List MemPlace} (hv : Value.okWide Tryz.prog W .any base 24 v)
    (h : DataW.Trod enc Tryz.prog W 0 (fun _ => true) true 24 v d p) : ∃ c : Cfg, v = cv c ∧ c.fits := by
  obtain ⟨cs, rfl, hsz⟩ := okWide_struct Tryz.underlying24 hv
  obtain ⟨l⟩ := cs
  match l, hsz.trans cells24 with
  | [c0, c1, c2, c3, c4, c5, c6, c7, c8, c9, c10, c11, c12], _ =>
    obtain ⟨fuel, hf⟩ := h
    obtain ⟨xs, n, _, _, _, hlen, hg⟩ := DataW.trod_struct Tryz.underlying24 hf
    match xs, hlen with
    | [y0, y1, y2, y3, y4, y5, y6, y7, y8, y9, y10], _ =>
      obtain ⟨n0, rfl, b0⟩ := int_cell rfl (hg 0 _ rfl)
      obtain ⟨n1, rfl, b1⟩ := int_cell rfl (hg 1 _ rfl)
      obtain ⟨n2, rfl, b2⟩ := int_cell rfl (hg 2 _ rfl)
      obtain ⟨n3, rfl, b3⟩ := int_cell rfl (hg 3 _ rfl)
      obtain ⟨n4, rfl, b4⟩ := int_cell rfl (hg 4 _ rfl)
      obtain ⟨n5, rfl, b5⟩ := int_cell rfl (hg 5 _ rfl)
      obtain ⟨n6, rfl, b6⟩ := int_cell rfl (hg 6 _ rfl)
      obtain ⟨n7, rfl, b7⟩ := int_cell rfl (hg 7 _ rfl)
      obtain ⟨n8, rfl, b8⟩ := int_cell rfl (hg 8 _ rfl)
      obtain ⟨n9, rfl, b9⟩ := int_cell rfl (hg 9 _ rfl)
      have hr : DataW.trod enc Tryz.prog W 0 (fun _ => true) true n 22 ([c10, c11, c12].take (Tryz.prog.cellsOf 22)) = some y10 := hg 10 _ rfl
      rw [cells22] at hr
      obtain ⟨zs, m, _, _, _, hzl, hel⟩ := DataW.trod_array Tryz.underlying22 hr
      match zs, hzl with
      | [z0, z1, z2], _ =>
        have e0 := hel 0 (by decide)
        have e1 := hel 1 (by decide)
        have e2 := hel 2 (by decide)
        rw [cells3] at e0 e1 e2
        obtain ⟨n10, r10, _, w10⟩ := DataW.trod_int Tryz.underlying3 e0
        obtain ⟨n11, r11, _, w11⟩ := DataW.trod_int Tryz.underlying3 e1
        obtain ⟨n12, r12, _, w12⟩ := DataW.trod_int Tryz.underlying3 e2
        simp at r10 r11 r12
        subst r10 r11 r12
        exact ⟨⟨n0, n1, n2, n3, n4, n5, n6, n7, n8, n9, n10, n11, n12⟩, rfl, b0, b1, b2, b3, b4, b5, b6, b7, b8, b9, (int_range w10).2, (int_range w11).2, (int_range w12).2⟩

end Go.Proofs.YtpknfbgnclgpmaaGreatDoor
