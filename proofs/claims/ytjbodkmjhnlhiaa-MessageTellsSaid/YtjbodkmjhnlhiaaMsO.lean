/-
  What readWord and readHead do.
-/
import Derived.Test.YtjbodkmjhnlhiaaMsA
import Derived.Laws.PanicsMore
import Derived.Deep.RegionHeld3
namespace Go.Proofs.Ytjbodkmjhnlhiaa
open Go Go.RowKit Go.Sort

/-- The bytes of a string, one by one. -/
theorem idx_at (T : ByteArray) (k : Nat) (h : k < T.size) (w : World) : (Instr.index 9 (.string T) (.int .i64 (k : Int))).run Try.prog w = .ok (.int .u8 (at8 T.data.toList k)) w := by
  rw [run_index_string _ _ _ _ _ Try.underlying9, dif_pos ⟨by omega, by omega⟩]
  have e : T.data.toList.getD k 0 = T[k]'h := by
    rw [List.getD_eq_getElem?_getD, List.getElem?_eq_getElem (by simpa using h)]
    rfl
  unfold at8 n8'
  rw [e]
  rfl
def Idx (T : ByteArray) (k x : Int) : Prop := ∀ w : World, (Instr.index 9 (.string T) (.int .i64 k)).run Try.prog w = .ok (.int .u8 x) w
theorem or_u32 (a b : Nat) (ha : a < 4294967296) (hb : b < 4294967296) : bits .or .u32 (a : Int) (b : Int) = ((a ||| b : Nat) : Int) := by
  have hx : a ||| b < 2 ^ 32 := Nat.or_lt_two_pow (by omega) (by omega)
  have h1 : (BitVec.ofInt 32 (a : Int)).toNat = a := by
    rw [BitVec.ofInt_natCast, BitVec.toNat_ofNat]; exact Nat.mod_eq_of_lt (by omega)
  have h2 : (BitVec.ofInt 32 (b : Int)).toNat = b := by
    rw [BitVec.ofInt_natCast, BitVec.toNat_ofNat]; exact Nat.mod_eq_of_lt (by omega)
  show IntKind.u32.wrap ((BitVec.ofInt 32 (a : Int) ||| BitVec.ofInt 32 (b : Int)).toNat : Int) = _
  rw [BitVec.toNat_or, h1, h2]
  simp [IntKind.wrap, IntKind.bits, IntKind.signed]
  omega
theorem or_add (i x y : Nat) (hy : y < 2 ^ i) : 2 ^ i * x ||| y = 2 ^ i * x + y := (Nat.two_pow_add_eq_or_of_lt hy x).symm
theorem or1 (a b : Int) (ha : 0 ≤ a ∧ a ≤ 255) (hb : 0 ≤ b ∧ b ≤ 255) : bits .or .u32 (a * 16777216) (b * 65536) = a * 16777216 + b * 65536 := by
  obtain ⟨x, rfl⟩ : ∃ x : Nat, a = x := ⟨a.toNat, by omega⟩
  obtain ⟨y, rfl⟩ : ∃ y : Nat, b = y := ⟨b.toNat, by omega⟩
  have h := or_u32 (2 ^ 24 * x) (y * 65536) (by omega) (by omega)
  rw [or_add 24 x (y * 65536) (by omega)] at h
  rw [show (x : Int) * 16777216 = ((2 ^ 24 * x : Nat) : Int) by omega, show (y : Int) * 65536 = ((y * 65536 : Nat) : Int) by omega, h]
  omega
theorem or2 (a b d : Int) (ha : 0 ≤ a ∧ a ≤ 255) (hb : 0 ≤ b ∧ b ≤ 255) (hd : 0 ≤ d ∧ d ≤ 255) : bits .or .u32 (a * 16777216 + b * 65536) (d * 256) = a * 16777216 + b * 65536 + d * 256 := by
  obtain ⟨x, rfl⟩ : ∃ x : Nat, a = x := ⟨a.toNat, by omega⟩
  obtain ⟨y, rfl⟩ : ∃ y : Nat, b = y := ⟨b.toNat, by omega⟩
  obtain ⟨z, rfl⟩ : ∃ z : Nat, d = z := ⟨d.toNat, by omega⟩
  have h := or_u32 (2 ^ 16 * (256 * x + y)) (z * 256) (by omega) (by omega)
  rw [or_add 16 (256 * x + y) (z * 256) (by omega)] at h
  rw [show (x : Int) * 16777216 + y * 65536 = ((2 ^ 16 * (256 * x + y) : Nat) : Int) by omega, show (z : Int) * 256 = ((z * 256 : Nat) : Int) by omega, h]
  omega
theorem or3 (a b d e : Int) (ha : 0 ≤ a ∧ a ≤ 255) (hb : 0 ≤ b ∧ b ≤ 255) (hd : 0 ≤ d ∧ d ≤ 255) (he : 0 ≤ e ∧ e ≤ 255) : bits .or .u32 (a * 16777216 + b * 65536 + d * 256) e = a * 16777216 + b * 65536 + d * 256 + e := by
  obtain ⟨x, rfl⟩ : ∃ x : Nat, a = x := ⟨a.toNat, by omega⟩
  obtain ⟨y, rfl⟩ : ∃ y : Nat, b = y := ⟨b.toNat, by omega⟩
  obtain ⟨z, rfl⟩ : ∃ z : Nat, d = z := ⟨d.toNat, by omega⟩
  obtain ⟨v, rfl⟩ : ∃ v : Nat, e = v := ⟨e.toNat, by omega⟩
  have h := or_u32 (2 ^ 8 * (65536 * x + 256 * y + z)) v (by omega) (by omega)
  rw [or_add 8 (65536 * x + 256 * y + z) v (by omega)] at h
  rw [show (x : Int) * 16777216 + y * 65536 + z * 256 = ((2 ^ 8 * (65536 * x + 256 * y + z) : Nat) : Int) by omega, h]
  omega
theorem wrap_i32 {n : Int} (h0 : 0 ≤ n) (h1 : n < 4294967296) : IntKind.i32.wrap n = sig n := by
  unfold sig
  simp [IntKind.wrap, IntKind.bits, IntKind.signed]
  split <;> omega
theorem sig_in {n : Int} (h0 : 0 ≤ n) (h1 : n < 4294967296) : -2147483648 ≤ sig n ∧ sig n ≤ 2147483647 := by
  unfold sig
  split <;> omega

set_option maxRecDepth 100000 in
set_option maxHeartbeats 2000000 in
theorem readWord_any (T : ByteArray) (w : World) (h : 4 ≤ T.size) :
    Calls Try.prog 30 #[.string T] w fun e w' => e = .returned (.int .i64 (rd4 T.data.toList 0)) ∧ Below w.heap.size w w' := by
  have i0 : Idx T 0 (at8 T.data.toList 0) := fun w => idx_at T 0 (by omega) w
  have i1 : Idx T 1 (at8 T.data.toList 1) := fun w => idx_at T 1 (by omega) w
  have i2 : Idx T 2 (at8 T.data.toList 2) := fun w => idx_at T 2 (by omega) w
  have i3 : Idx T 3 (at8 T.data.toList 3) := fun w => idx_at T 3 (by omega) w
  unfold Idx at i0 i1 i2 i3
  have b0 := at8_in T.data.toList 0
  have b1 := at8_in T.data.toList 1
  have b2 := at8_in T.data.toList 2
  have b3 := at8_in T.data.toList 3
  have HR : Hid (rd4 T.data.toList 0 = sig (at8 T.data.toList 0 * 16777216 + at8 T.data.toList 1 * 65536 + at8 T.data.toList 2 * 256 + at8 T.data.toList 3)) := Lib.hid (by unfold rd4; simp only [Nat.zero_add]; congr 1; omega)
  generalize at8 T.data.toList 0 = x0 at *
  generalize at8 T.data.toList 1 = x1 at *
  generalize at8 T.data.toList 2 = x2 at *
  generalize at8 T.data.toList 3 = x3 at *
  have o1 := or1 x0 x1 b0 b1
  have o2 := or2 x0 x1 x2 b0 b1 b2
  have o3 := or3 x0 x1 x2 x3 b0 b1 b2 b3
  have hw := wrap_i32 (n := x0 * 16777216 + x1 * 65536 + x2 * 256 + x3) (by omega) (by omega)
  have hs := sig_in (n := x0 * 16777216 + x1 * 65536 + x2 * 256 + x3) (by omega) (by omega)
  obtain ⟨s1, s2⟩ := hs
  obtain ⟨p0, q0⟩ := b0
  obtain ⟨p1, q1⟩ := b1
  obtain ⟨p2, q2⟩ := b2
  obtain ⟨p3, q3⟩ := b3
  go_enter Try.func30, Try.ntmps30
  go_wp2
  go_quiet (fail)
  go_wp2
  go_ret
  exact ⟨ret_int HR.out.symm, below_drewN (Below.refl _ _) _⟩

end Go.Proofs.Ytjbodkmjhnlhiaa
