/-
  A message is the same as itself; awake of layer 5 is true.
-/
import Derived.Test.YtjbodkmjhnlhiaaMsT
import Derived.Test.YtjbodkmjhnlhiaaMsK
import Derived.Laws.StructEq
import Derived.ChangeKeysEq
namespace Go.Proofs.Ytjbodkmjhnlhiaa
open Go Go.RowKit

theorem infoInt : (Try.prog.info? 3).map (fun i => (i.zero, i.size, i.bytes)) = some (some (.int .i64 0), 1, 8) := by kernel_rfl
/-- Words are the same as themselves. -/
theorem words_same (d : Nat) (a0 a1 a2 a3 a4 a5 a6 a7 : Int) (w : World) : (Op.equalIn (d + 2) 26 (.agg #[.int .i64 a0, .int .i64 a1, .int .i64 a2, .int .i64 a3, .int .i64 a4, .int .i64 a5, .int .i64 a6, .int .i64 a7]) (.agg #[.int .i64 a0, .int .i64 a1, .int .i64 a2, .int .i64 a3, .int .i64 a4, .int .i64 a5, .int .i64 a6, .int .i64 a7])).run Try.prog w = .ok true w := by
  obtain ⟨i0, hi0, hz0, hz1, hz2⟩ := info_parts infoInt
  rw [run_equalIn_array w (d + 1) _ _ Try.underlying26 hi0]
  have hc3 : Try.prog.cellsOf 3 = 1 := by kernel_rfl
  rw [hc3]
  have hu := Try.underlying3
  simp [Op.eqItems, List.range, List.range.loop, go_sem]
theorem msg_eql (m : Msg) (w : World) : (binOp .eql 28 (mv m) (mv m)).run Try.prog w = .ok (.bool true) w := by
  have ha := fun d => words_same d m.w0 m.w1 m.w2 m.w3 m.w4 m.w5 m.w6 m.w7
  simp [go_sem, ha]
theorem msg_neq (m : Msg) (w : World) : (binOp .neq 28 (mv m) (mv m)).run Try.prog w = .ok (.bool false) w := by
  have ha := fun d => words_same d m.w0 m.w1 m.w2 m.w3 m.w4 m.w5 m.w6 m.w7
  simp [go_sem, ha]

abbrev cA : Cfg := ⟨3, 2, 1, 1, 2, 4, 0, 1, 1, 1, 1, 1, 1⟩
abbrev mA : Msg := ⟨7, 3, 1, 2, 0, 1, 4, 7, -1, 0, 0, 0, 0, 0, 0⟩
def bA : List UInt8 := [7, 0, 3, 1, 2, 0, 1, 4, 0, 0, 0, 7, 255, 255, 255, 255]
theorem may_A : mayM cA mA = true := by decide +kernel
theorem put_A : putM cA mA = (bA, 0) := by decide +kernel
theorem take_A : takM cA bA = (mA, 0) := by
  have h := take_put may_A
  have e : bytesM cA mA = bA := by decide +kernel
  rwa [e] at h
theorem put_Z : putM cA m0 = ([], 1) := by decide +kernel
theorem take_Z : takM cA [120] = (m0, 2) := by
  have h : tkB cA [120] = false := by decide +kernel
  unfold takM
  rw [h]
  rfl
theorem fits_A : cA.fits := by simp [Cfg.fits]

/-- Sizes and message of awake, and what was taken. -/
structure AwSt (w wr : World) (g : Nat) : Prop where
  k : K2 w (ccells cA) (mcells mA) wr
  n : wr.heap[g]? = some (.cells (mcells mA) 28 (0, 0))
theorem AwSt.step {w w1 w2 : World} {g : Nat} (h : AwSt w w1 g) (hb : Below w1.heap.size w1 w2) : AwSt w w2 g := ⟨h.k.step hb, (hb.block _ (lt_of_block h.n)).trans h.n⟩

set_option maxRecDepth 100000 in
set_option maxHeartbeats 4000000 in
/-- awake: the calls whose answers the document fixes. -/
theorem awake5_any (w : World) :
    Calls Try.prog 6 #[] w fun e w' => e = .returned (.bool true) ∧ Below w.heap.size w w' := by
  have K0 := K2.box w (ccells cA) (mcells mA) 24 28
  go_enter Try.func6, Try.ntmps6
  go_wp2_with fail
  refine (put_any cA mA _ fits_A).mono ?_
  rintro e w1 ⟨rfl, hb1⟩
  rw [put_A]
  have K1 := K0.step hb1
  have ha := K1.a; have hb := K1.b
  clear hb1 K0
  go_wp2_with fail
  refine (take_any cA ⟨bA.toArray⟩ _ fits_A).mono ?_
  rintro e w2 ⟨rfl, hb2⟩
  rw [show (ByteArray.mk bA.toArray).data.toList = bA from rfl, take_A]
  have S2 : AwSt w (w2.alloc (.cells (mcells mA) 28)) w2.heap.size := ⟨(K1.step hb2).step ((Below.refl _ _).alloc (Nat.le_refl _) _), heap_alloc_new w2 _⟩
  clear hb2 ha hb K1
  have ha := S2.k.a
  go_wp2_with fail
  refine (put_any cA m0 _ fits_A).mono ?_
  rintro e w3 ⟨rfl, hb3⟩
  rw [put_Z]
  have S3 := S2.step hb3
  clear hb3 ha S2
  have ha := S3.k.a
  go_wp2_with fail
  refine (take_any cA ⟨#[120]⟩ _ fits_A).mono ?_
  rintro e w4 ⟨rfl, hb4⟩
  rw [show (ByteArray.mk #[120]).data.toList = [120] from rfl, take_Z]
  have S4 := (S3.step hb4).step ((Below.refl _ w4).alloc (Nat.le_refl _) (.cells (mcells m0) 28))
  clear hb4 ha S3
  have n1 : net 2 = 0 := by decide
  have n2 : net 6 = 1 := by decide
  have n3 : net 9 = 2 := by decide
  have n4 : net 0 = -1 := by decide
  have o1 : toHome 11 = true := by decide
  have o2 : toHome 6 = false := by decide
  have hq := msg_eql mA
  have hlit : bA.toArray = #[7, 0, 3, 1, 2, 0, 1, 4, 0, 0, 0, 7, 255, 255, 255, 255] := rfl
  have M1 := Lib.hid may_A
  have ha := S4.k.a
  have hb := S4.k.b
  have hn := blk_cell S4.n
  go_wp2_with (first
    | (go_at_call 11; refine (net_any _ _).mono ?_; rintro e w5 ⟨rfl, hb5⟩; have S4 := S4.step hb5; clear hb5 ha hb hn; have ha := S4.k.a; have hb := S4.k.b; have hn := blk_cell S4.n)
    | (go_at_call 13; refine (home_any _ _).mono ?_; rintro e w5 ⟨rfl, hb5⟩; have S4 := S4.step hb5; clear hb5 ha hb hn; have ha := S4.k.a; have hb := S4.k.b; have hn := blk_cell S4.n)
    | (go_at_call 15; refine (may_any cA mA _ fits_A).mono ?_; rintro e w5 ⟨rfl, hb5⟩; rw [M1.out]; have S4 := S4.step hb5; clear hb5 ha hb hn))
  go_ret
  exact ⟨rfl, S4.k.below⟩

end Go.Proofs.Ytjbodkmjhnlhiaa
