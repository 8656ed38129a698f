/-
  What readHead does.
-/
import Derived.Test.YtjbodkmjhnlhiaaMsO
import Derived.StillTailTactics
namespace Go.Proofs.Ytjbodkmjhnlhiaa
open Go Go.RowKit Go.Sort

theorem or_i64 (a b : Nat) (ha : a < 9223372036854775808) (hb : b < 9223372036854775808) : bits .or .i64 (a : Int) (b : Int) = ((a ||| b : Nat) : Int) := by
  have hx : a ||| b < 2 ^ 63 := Nat.or_lt_two_pow (by omega) (by omega)
  have h1 : (BitVec.ofInt 64 (a : Int)).toNat = a := by
    rw [BitVec.ofInt_natCast, BitVec.toNat_ofNat]; exact Nat.mod_eq_of_lt (by omega)
  have h2 : (BitVec.ofInt 64 (b : Int)).toNat = b := by
    rw [BitVec.ofInt_natCast, BitVec.toNat_ofNat]; exact Nat.mod_eq_of_lt (by omega)
  show IntKind.i64.wrap ((BitVec.ofInt 64 (a : Int) ||| BitVec.ofInt 64 (b : Int)).toNat : Int) = _
  rw [BitVec.toNat_or, h1, h2, IntKind.wrap_i64]
  omega
theorem keep64 {n : Int} (h0 : 0 ≤ n) (h1 : n ≤ 4294967296) : IntKind.i64.wrap n = n := by rw [IntKind.wrap_i64]; omega
theorem or_line (a b : Int) (ha : 0 ≤ a ∧ a ≤ 255) (hb : 0 ≤ b ∧ b ≤ 255) : bits .or .i64 (a * 256) b = a * 256 + b := by
  obtain ⟨x, rfl⟩ : ∃ x : Nat, a = x := ⟨a.toNat, by omega⟩
  obtain ⟨y, rfl⟩ : ∃ y : Nat, b = y := ⟨b.toNat, by omega⟩
  have h := or_i64 (2 ^ 8 * x) y (by omega) (by omega)
  rw [or_add 8 x y (by omega)] at h
  rw [show (x : Int) * 256 = ((2 ^ 8 * x : Nat) : Int) by omega, h]
  omega

/-- The first eight bytes. -/
structure Eight (T : ByteArray) (x0 x1 x2 x3 x4 x5 x6 x7 : Int) : Prop where
  i0 : Idx T 0 x0
  i1 : Idx T 1 x1
  i2 : Idx T 2 x2
  i3 : Idx T 3 x3
  i4 : Idx T 4 x4
  i5 : Idx T 5 x5
  i6 : Idx T 6 x6
  i7 : Idx T 7 x7
theorem eight (T : ByteArray) (h : 8 ≤ T.size) : Eight T (at8 T.data.toList 0) (at8 T.data.toList 1) (at8 T.data.toList 2) (at8 T.data.toList 3) (at8 T.data.toList 4) (at8 T.data.toList 5) (at8 T.data.toList 6) (at8 T.data.toList 7) :=
  ⟨fun w => idx_at T 0 (by omega) w, fun w => idx_at T 1 (by omega) w, fun w => idx_at T 2 (by omega) w, fun w => idx_at T 3 (by omega) w, fun w => idx_at T 4 (by omega) w, fun w => idx_at T 5 (by omega) w, fun w => idx_at T 6 (by omega) w, fun w => idx_at T 7 (by omega) w⟩

set_option maxRecDepth 100000 in
set_option maxHeartbeats 4000000 in
theorem readHead_any (T : ByteArray) (w : World) (h : 8 ≤ T.size) :
    Calls Try.prog 29 #[.string T] w fun e w' => e = .returned (mv (headM T.data.toList)) ∧ Below w.heap.size w w' := by
  obtain ⟨i0, i1, i2, i3, i4, i5, i6, i7⟩ := eight T h
  unfold Idx at i0 i1 i2 i3 i4 i5 i6 i7
  have b0 := at8_in T.data.toList 0
  have b1 := at8_in T.data.toList 1
  have b2 := at8_in T.data.toList 2
  have b3 := at8_in T.data.toList 3
  have b4 := at8_in T.data.toList 4
  have b5 := at8_in T.data.toList 5
  have b6 := at8_in T.data.toList 6
  have b7 := at8_in T.data.toList 7
  have HR : Hid (headM T.data.toList = ⟨at8 T.data.toList 0, at8 T.data.toList 1 * 256 + at8 T.data.toList 2, at8 T.data.toList 3, at8 T.data.toList 4, at8 T.data.toList 5, at8 T.data.toList 6, at8 T.data.toList 7, 0, 0, 0, 0, 0, 0, 0, 0⟩) := Lib.hid rfl
  generalize headM T.data.toList = M at *
  generalize at8 T.data.toList 0 = x0 at *
  generalize at8 T.data.toList 1 = x1 at *
  generalize at8 T.data.toList 2 = x2 at *
  generalize at8 T.data.toList 3 = x3 at *
  generalize at8 T.data.toList 4 = x4 at *
  generalize at8 T.data.toList 5 = x5 at *
  generalize at8 T.data.toList 6 = x6 at *
  generalize at8 T.data.toList 7 = x7 at *
  have o1 := or_line x1 x2 b1 b2
  obtain ⟨p0, q0⟩ := b0
  obtain ⟨p1, q1⟩ := b1
  obtain ⟨p2, q2⟩ := b2
  obtain ⟨p3, q3⟩ := b3
  obtain ⟨p4, q4⟩ := b4
  obtain ⟨p5, q5⟩ := b5
  obtain ⟨p6, q6⟩ := b6
  obtain ⟨p7, q7⟩ := b7
  have e0 := keep64 p0 (by omega)
  have e1 := keep64 p1 (by omega)
  have e2 := keep64 p2 (by omega)
  have e3 := keep64 p3 (by omega)
  have e4 := keep64 p4 (by omega)
  have e5 := keep64 p5 (by omega)
  have e6 := keep64 p6 (by omega)
  have e7 := keep64 p7 (by omega)
  have e12 := keep64 (n := x1 * 256) (by omega) (by omega)
  go_enter Try.func29, Try.ntmps29
  go_wp2
  go_still_tail 27, (by kernel_rfl)
  change wpList _ _ _ _ _ (w.alloc (.cells (mcells m0) 28)).drew
  go_wp2_with ((with_reducible refine wpList_store_row (o := ⟨none, _, _, _, _, _⟩) rfl 28 (.tmp 2) (.tmp 29) rfl w.heap.size (mcells ⟨x0, x1 * 256 + x2, x3, x4, x5, x6, x7, 0, 0, 0, 0, 0, 0, 0, 0⟩) ?sx ?sy 28 ?old ?sg ?si ?so ?s1 ?_); (case sx => rfl); (case sy => rfl); (case sg => exact heap_alloc_new w _); (case si => kernel_rfl); (case so => rfl); (case s1 => kernel_rfl))
  refine bodyPost_ret (v := .agg (mcells ⟨x0, x1 * 256 + x2, x3, x4, x5, x6, x7, 0, 0, 0, 0, 0, 0, 0, 0⟩)) ?_ rfl ⟨?_, ?_⟩
  · exact results_cell_row Try.results29 _ _ w.heap.size 28 _ (0, 0) _ rfl (setRow_heap _ _ _ _ _ _ (heap_alloc_new w _)) Try.underlying28 rfl (by kernel_rfl)
  · rw [HR.out]
  · exact below_setRow (((Below.refl _ _).alloc (Nat.le_refl _) _).drew) (by omega) _

end Go.Proofs.Ytjbodkmjhnlhiaa
