/-
  What the document's own Take does.
-/
import Derived.Test.YtjbodkmjhnlhiaaMsP
import Derived.Test.YtjbodkmjhnlhiaaMsS
import Derived.StillTailTactics
namespace Go.Proofs.Ytjbodkmjhnlhiaa
open Go Go.RowKit

def RetT' (w : World) (M : Msg) (n : Int) (e : Ending) (w' : World) : Prop := e = .returned (.tuple #[mv M, .int .i64 n]) ∧ Below w.heap.size w w'
theorem reftake_ret {w wr : World} {M : Msg} {n : Int} {a : Act} {g : Nat} (hp : a.tmps.getD 4 undef = .pointer (some ⟨g, 0, none⟩)) (hq : a.tmps.getD 5 undef = .int .i64 n) (hd : a.defers = []) (hg : wr.heap[g]? = some (.cells (mcells M) 28 (0, 0))) (hb : Below w.heap.size w wr) :
    bodyPost Try.prog Try.f10 (RetT' w M n) Exit.ret a wr :=
  bodyPost_ret (v := .tuple #[mv M, a.tmps.getD 5 undef]) (results_cell_two Try.results10 _ _ g 28 _ (0, 0) _ hp hg Try.underlying28 rfl (by kernel_rfl)) hd ⟨by rw [hq], hb⟩

set_option maxRecDepth 100000 in
set_option maxHeartbeats 2000000 in
theorem reftake_len (c : Cfg) (T : ByteArray) (w : World) (h : T.size < 8 ∨ 40 < T.size) :
    Calls Try.prog 10 #[cv c, .string T] w (RetT' w m0 2) := by
  obtain ⟨s1, s2, s3, s4⟩ := rd_start c w
  have S2 := Lib.hid s2
  have S3 := Lib.hid s3
  clear s1 s2 s3 s4
  rcases (show T.size < 8 ∨ (8 ≤ T.size ∧ 40 < T.size) by omega) with hx | ⟨hx, hy⟩
  all_goals
    clear h
    go_enter Try.func10, Try.ntmps10
    go_wp2_with ((with_reducible refine wpList_store_row (o := ⟨none, _, _, _, _, _⟩) rfl 28 (.tmp 4) (.tmp 20) rfl (w.heap.size + 1) (mcells m0) ?sx ?sy 28 ?old ?sg ?si ?so ?s1 ?_); (case sx => rfl); (case sy => rfl); (case sg => exact S2.out); (case si => kernel_rfl); (case so => rfl); (case s1 => kernel_rfl))
    all_goals try (exfalso; omega)
    all_goals exact reftake_ret rfl rfl rfl (setRow_heap _ _ _ _ _ _ S2.out) (below_setRow S3.out (by omega) _)

/-- So much of a number is told by some bytes from a place on. -/
def accB (s : List UInt8) (p : Nat) : Nat → Int
  | 0 => 0
  | j + 1 => 256 * accB s p j + at8 s (p + j)
theorem acc_in (s : List UInt8) (p : Nat) : 0 ≤ accB s p 4 ∧ accB s p 4 < 4294967296 ∧ (∀ j, j < 4 → 0 ≤ accB s p j ∧ accB s p j < 16777216) := by
  have b0 := at8_in s (p + 0); have b1 := at8_in s (p + 1); have b2 := at8_in s (p + 2); have b3 := at8_in s (p + 3)
  refine ⟨by simp only [accB]; omega, by simp only [accB]; omega, fun j hj => ?_⟩
  rcases (show j = 0 ∨ j = 1 ∨ j = 2 ∨ j = 3 by omega) with rfl | rfl | rfl | rfl <;> (simp only [accB]; omega)
theorem acc_four (s : List UInt8) (p : Nat) : rd4 s p = sig (accB s p 4) := by
  unfold rd4
  congr 1
  simp only [accB, Nat.add_zero]
  omega

set_option maxRecDepth 100000 in
set_option maxHeartbeats 4000000 in
theorem reftake_in (c : Cfg) (T : ByteArray) (w : World) (h8 : 8 ≤ T.size) (h40 : T.size ≤ 40) :
    Calls Try.prog 10 #[cv c, .string T] w (RetT' w (takM c T.data.toList).1 (takM c T.data.toList).2) := by
  obtain ⟨i0, i1, i2, i3, i4, i5, i6, i7⟩ := eight T h8
  unfold Idx at i0 i1 i2 i3 i4 i5 i6 i7
  have b0 := at8_in T.data.toList 0
  have b1 := at8_in T.data.toList 1
  have b2 := at8_in T.data.toList 2
  have b3 := at8_in T.data.toList 3
  have b4 := at8_in T.data.toList 4
  have b5 := at8_in T.data.toList 5
  have b6 := at8_in T.data.toList 6
  have b7 := at8_in T.data.toList 7
  have HR : Hid (tellN T.data.toList 0 = ⟨at8 T.data.toList 0, 256 * at8 T.data.toList 1 + at8 T.data.toList 2, at8 T.data.toList 3, at8 T.data.toList 4, at8 T.data.toList 5, at8 T.data.toList 6, at8 T.data.toList 7, 0, 0, 0, 0, 0, 0, 0, 0⟩) := Lib.hid (by rw [tell_head]; unfold headM; rw [Int.mul_comm])
  generalize at8 T.data.toList 0 = x0 at *
  generalize at8 T.data.toList 1 = x1 at *
  generalize at8 T.data.toList 2 = x2 at *
  generalize at8 T.data.toList 3 = x3 at *
  generalize at8 T.data.toList 4 = x4 at *
  generalize at8 T.data.toList 5 = x5 at *
  generalize at8 T.data.toList 6 = x6 at *
  generalize at8 T.data.toList 7 = x7 at *
  obtain ⟨p0, q0⟩ := b0
  obtain ⟨p1, q1⟩ := b1
  obtain ⟨p2, q2⟩ := b2
  obtain ⟨p3, q3⟩ := b3
  obtain ⟨p4, q4⟩ := b4
  obtain ⟨p5, q5⟩ := b5
  obtain ⟨p6, q6⟩ := b6
  obtain ⟨p7, q7⟩ := b7
  have e0 := keep64 p0 (by omega)
  have e1 := keep64 p1 (by omega)
  have e2 := keep64 p2 (by omega)
  have e3 := keep64 p3 (by omega)
  have e4 := keep64 p4 (by omega)
  have e5 := keep64 p5 (by omega)
  have e6 := keep64 p6 (by omega)
  have e7 := keep64 p7 (by omega)
  have e8 := keep64 (n := 256 * x1) (by omega) (by omega)
  have e9 := keep64 (n := 256 * x1 + x2) (by omega) (by omega)
  go_enter Try.func10, Try.ntmps10
  go_wp2_with (fail)
  refine wp_region_noPanic ?_
  refine wp_region_held_drew (S := fun _ => True) (by kernel_rfl) trivial (fun hh => ?_)
  refine wpAnyH_take (fuel := 28) (i := 0) (oi := ⟨some 21, _, _, _, _, _⟩) (v := .string T) rfl (by kernel_rfl) (by kernel_rfl) (by kernel_rfl) (fun _ _ _ h => h) (Or.inl ⟨by rfl, ?_⟩) trivial ?_
  · intro w' _
    go_simp
  simp only [Act.put, List.setIfInBounds_toArray]
  refine wpAnyH_take (fuel := 27) (i := 1) (oi := ⟨some 22, _, _, _, _, _⟩) (v := .int .u8 x0) rfl (by kernel_rfl) (by kernel_rfl) (by kernel_rfl) (fun _ _ _ h => h) (Or.inl ⟨by rfl, ?_⟩) trivial ?_
  · intro w' _
    go_simp
  simp only [Act.put, List.setIfInBounds_toArray]
  refine wpAnyH_take (fuel := 26) (i := 2) (oi := ⟨some 23, _, _, _, _, _⟩) (v := .int .i64 x0) rfl (by kernel_rfl) (by kernel_rfl) (by kernel_rfl) (fun _ _ _ h => h) (Or.inl ⟨by rfl, ?_⟩) trivial ?_
  · intro w' _
    go_simp
  simp only [Act.put, List.setIfInBounds_toArray]
  refine wpAnyH_take (fuel := 25) (i := 3) (oi := ⟨some 24, _, _, _, _, _⟩) (v := .string T) rfl (by kernel_rfl) (by kernel_rfl) (by kernel_rfl) (fun _ _ _ h => h) (Or.inl ⟨by rfl, ?_⟩) trivial ?_
  · intro w' _
    go_simp
  simp only [Act.put, List.setIfInBounds_toArray]
  refine wpAnyH_take (fuel := 24) (i := 4) (oi := ⟨some 25, _, _, _, _, _⟩) (v := .int .u8 x1) rfl (by kernel_rfl) (by kernel_rfl) (by kernel_rfl) (fun _ _ _ h => h) (Or.inl ⟨by rfl, ?_⟩) trivial ?_
  · intro w' _
    go_simp
  simp only [Act.put, List.setIfInBounds_toArray]
  refine wpAnyH_take (fuel := 23) (i := 5) (oi := ⟨some 26, _, _, _, _, _⟩) (v := .int .i64 x1) rfl (by kernel_rfl) (by kernel_rfl) (by kernel_rfl) (fun _ _ _ h => h) (Or.inl ⟨by rfl, ?_⟩) trivial ?_
  · intro w' _
    go_simp
  simp only [Act.put, List.setIfInBounds_toArray]
  refine wpAnyH_take (fuel := 22) (i := 6) (oi := ⟨some 27, _, _, _, _, _⟩) (v := .int .i64 (256 * x1)) rfl (by kernel_rfl) (by kernel_rfl) (by kernel_rfl) (fun _ _ _ h => h) (Or.inl ⟨by rfl, ?_⟩) trivial ?_
  · intro w' _
    go_simp
  simp only [Act.put, List.setIfInBounds_toArray]
  refine wpAnyH_take (fuel := 21) (i := 7) (oi := ⟨some 28, _, _, _, _, _⟩) (v := .string T) rfl (by kernel_rfl) (by kernel_rfl) (by kernel_rfl) (fun _ _ _ h => h) (Or.inl ⟨by rfl, ?_⟩) trivial ?_
  · intro w' _
    go_simp
  simp only [Act.put, List.setIfInBounds_toArray]
  refine wpAnyH_take (fuel := 20) (i := 8) (oi := ⟨some 29, _, _, _, _, _⟩) (v := .int .u8 x2) rfl (by kernel_rfl) (by kernel_rfl) (by kernel_rfl) (fun _ _ _ h => h) (Or.inl ⟨by rfl, ?_⟩) trivial ?_
  · intro w' _
    go_simp
  simp only [Act.put, List.setIfInBounds_toArray]
  refine wpAnyH_take (fuel := 19) (i := 9) (oi := ⟨some 30, _, _, _, _, _⟩) (v := .int .i64 x2) rfl (by kernel_rfl) (by kernel_rfl) (by kernel_rfl) (fun _ _ _ h => h) (Or.inl ⟨by rfl, ?_⟩) trivial ?_
  · intro w' _
    go_simp
  simp only [Act.put, List.setIfInBounds_toArray]
  refine wpAnyH_take (fuel := 18) (i := 10) (oi := ⟨some 31, _, _, _, _, _⟩) (v := .int .i64 (256 * x1 + x2)) rfl (by kernel_rfl) (by kernel_rfl) (by kernel_rfl) (fun _ _ _ h => h) (Or.inl ⟨by rfl, ?_⟩) trivial ?_
  · intro w' _
    go_simp
  simp only [Act.put, List.setIfInBounds_toArray]
  refine wpAnyH_take (fuel := 17) (i := 11) (oi := ⟨some 32, _, _, _, _, _⟩) (v := .string T) rfl (by kernel_rfl) (by kernel_rfl) (by kernel_rfl) (fun _ _ _ h => h) (Or.inl ⟨by rfl, ?_⟩) trivial ?_
  · intro w' _
    go_simp
  simp only [Act.put, List.setIfInBounds_toArray]
  refine wpAnyH_take (fuel := 16) (i := 12) (oi := ⟨some 33, _, _, _, _, _⟩) (v := .int .u8 x3) rfl (by kernel_rfl) (by kernel_rfl) (by kernel_rfl) (fun _ _ _ h => h) (Or.inl ⟨by rfl, ?_⟩) trivial ?_
  · intro w' _
    go_simp
  simp only [Act.put, List.setIfInBounds_toArray]
  refine wpAnyH_take (fuel := 15) (i := 13) (oi := ⟨some 34, _, _, _, _, _⟩) (v := .int .i64 x3) rfl (by kernel_rfl) (by kernel_rfl) (by kernel_rfl) (fun _ _ _ h => h) (Or.inl ⟨by rfl, ?_⟩) trivial ?_
  · intro w' _
    go_simp
  simp only [Act.put, List.setIfInBounds_toArray]
  refine wpAnyH_take (fuel := 14) (i := 14) (oi := ⟨some 35, _, _, _, _, _⟩) (v := .string T) rfl (by kernel_rfl) (by kernel_rfl) (by kernel_rfl) (fun _ _ _ h => h) (Or.inl ⟨by rfl, ?_⟩) trivial ?_
  · intro w' _
    go_simp
  simp only [Act.put, List.setIfInBounds_toArray]
  refine wpAnyH_take (fuel := 13) (i := 15) (oi := ⟨some 36, _, _, _, _, _⟩) (v := .int .u8 x4) rfl (by kernel_rfl) (by kernel_rfl) (by kernel_rfl) (fun _ _ _ h => h) (Or.inl ⟨by rfl, ?_⟩) trivial ?_
  · intro w' _
    go_simp
  simp only [Act.put, List.setIfInBounds_toArray]
  refine wpAnyH_take (fuel := 12) (i := 16) (oi := ⟨some 37, _, _, _, _, _⟩) (v := .int .i64 x4) rfl (by kernel_rfl) (by kernel_rfl) (by kernel_rfl) (fun _ _ _ h => h) (Or.inl ⟨by rfl, ?_⟩) trivial ?_
  · intro w' _
    go_simp
  simp only [Act.put, List.setIfInBounds_toArray]
  refine wpAnyH_take (fuel := 11) (i := 17) (oi := ⟨some 38, _, _, _, _, _⟩) (v := .string T) rfl (by kernel_rfl) (by kernel_rfl) (by kernel_rfl) (fun _ _ _ h => h) (Or.inl ⟨by rfl, ?_⟩) trivial ?_
  · intro w' _
    go_simp
  simp only [Act.put, List.setIfInBounds_toArray]
  refine wpAnyH_take (fuel := 10) (i := 18) (oi := ⟨some 39, _, _, _, _, _⟩) (v := .int .u8 x5) rfl (by kernel_rfl) (by kernel_rfl) (by kernel_rfl) (fun _ _ _ h => h) (Or.inl ⟨by rfl, ?_⟩) trivial ?_
  · intro w' _
    go_simp
  simp only [Act.put, List.setIfInBounds_toArray]
  refine wpAnyH_take (fuel := 9) (i := 19) (oi := ⟨some 40, _, _, _, _, _⟩) (v := .int .i64 x5) rfl (by kernel_rfl) (by kernel_rfl) (by kernel_rfl) (fun _ _ _ h => h) (Or.inl ⟨by rfl, ?_⟩) trivial ?_
  · intro w' _
    go_simp
  simp only [Act.put, List.setIfInBounds_toArray]
  refine wpAnyH_take (fuel := 8) (i := 20) (oi := ⟨some 41, _, _, _, _, _⟩) (v := .string T) rfl (by kernel_rfl) (by kernel_rfl) (by kernel_rfl) (fun _ _ _ h => h) (Or.inl ⟨by rfl, ?_⟩) trivial ?_
  · intro w' _
    go_simp
  simp only [Act.put, List.setIfInBounds_toArray]
  refine wpAnyH_take (fuel := 7) (i := 21) (oi := ⟨some 42, _, _, _, _, _⟩) (v := .int .u8 x6) rfl (by kernel_rfl) (by kernel_rfl) (by kernel_rfl) (fun _ _ _ h => h) (Or.inl ⟨by rfl, ?_⟩) trivial ?_
  · intro w' _
    go_simp
  simp only [Act.put, List.setIfInBounds_toArray]
  refine wpAnyH_take (fuel := 6) (i := 22) (oi := ⟨some 43, _, _, _, _, _⟩) (v := .int .i64 x6) rfl (by kernel_rfl) (by kernel_rfl) (by kernel_rfl) (fun _ _ _ h => h) (Or.inl ⟨by rfl, ?_⟩) trivial ?_
  · intro w' _
    go_simp
  simp only [Act.put, List.setIfInBounds_toArray]
  refine wpAnyH_take (fuel := 5) (i := 23) (oi := ⟨some 44, _, _, _, _, _⟩) (v := .string T) rfl (by kernel_rfl) (by kernel_rfl) (by kernel_rfl) (fun _ _ _ h => h) (Or.inl ⟨by rfl, ?_⟩) trivial ?_
  · intro w' _
    go_simp
  simp only [Act.put, List.setIfInBounds_toArray]
  refine wpAnyH_take (fuel := 4) (i := 24) (oi := ⟨some 45, _, _, _, _, _⟩) (v := .int .u8 x7) rfl (by kernel_rfl) (by kernel_rfl) (by kernel_rfl) (fun _ _ _ h => h) (Or.inl ⟨by rfl, ?_⟩) trivial ?_
  · intro w' _
    go_simp
  simp only [Act.put, List.setIfInBounds_toArray]
  refine wpAnyH_take (fuel := 3) (i := 25) (oi := ⟨some 46, _, _, _, _, _⟩) (v := .int .i64 x7) rfl (by kernel_rfl) (by kernel_rfl) (by kernel_rfl) (fun _ _ _ h => h) (Or.inl ⟨by rfl, ?_⟩) trivial ?_
  · intro w' _
    go_simp
  simp only [Act.put, List.setIfInBounds_toArray]
  refine wpAnyH_take (fuel := 2) (i := 26) (oi := ⟨some 47, _, _, _, _, _⟩) (v := .agg #[.int .i64 x0, .int .i64 (256 * x1 + x2), .int .i64 x3, .int .i64 x4, .int .i64 x5, .int .i64 x6, .int .i64 x7, .int .i64 0, .int .i64 0, .int .i64 0, .int .i64 0, .int .i64 0, .int .i64 0, .int .i64 0, .int .i64 0]) rfl (by kernel_rfl) (by kernel_rfl) (by kernel_rfl) (fun _ _ _ h => h) (Or.inl ⟨by rfl, ?_⟩) trivial ?_
  · intro w' _
    go_simp
  simp only [Act.put, List.setIfInBounds_toArray]
  refine wpAnyH_ready (fuel := 1) (rs := [27]) (by kernel_rfl) (by simp) ?_
  refine (AllReadyH.cons (o := ⟨some 6, _, _, _, _, _⟩) rfl (fun K hK => ?_) AllReadyH.nil)
  go_simp
  show K _ _
  refine hK.out _ _ trivial (fun _ => ?_)
  clear hK K
  try simp only [Act.put, List.setIfInBounds_toArray]
  refine wpAnyH_ready (fuel := 0) (rs := [28]) (by kernel_rfl) (by simp) ?_
  refine (AllReadyH.cons (o := ⟨none, _, _, _, _, _⟩) rfl (fun K hK => ?_) AllReadyH.nil)
  go_simp
  show K _ _
  refine hK.out _ _ trivial (fun _ => ?_)
  clear hK K
  refine wpAnyH_done (by kernel_rfl) ?_ _
  refine NoPanic.normal ?_
  have K0 : RdSt c w (((w.alloc (.cells (ccells c) 24)).alloc (.cells (mcells m0) 28)).alloc (.cells (mcells ⟨x0, 256 * x1 + x2, x3, x4, x5, x6, x7, 0, 0, 0, 0, 0, 0, 0, 0⟩) 28)).drew (w.heap.size + 1 + 1) (tellN T.data.toList 0) := by
    rw [HR.out]
    have h := (rd_laid c (w := w) ⟨x0, 256 * x1 + x2, x3, x4, x5, x6, x7, 0, 0, 0, 0, 0, 0, 0, 0⟩ (Below.refl _ _)).step (Below.refl _ _).drew
    rwa [show ((w.alloc (.cells (ccells c) 24)).alloc (.cells (mcells m0) 28)).heap.size = w.heap.size + 1 + 1 by simp] at h
  have hcn : cnt T.data.toList = (T.size - 8) / 4 := rfl
  have HCN := Lib.hid hcn
  clear HR i0 i1 i2 i3 i4 i5 i6 i7 e0 e1 e2 e3 e4 e5 e6 e7 e8 e9 p0 q0 p1 q1 p2 q2 p3 q3 p4 q4 p5 q5 p6 q6 p7 q7 hcn
  go_wp2
  go_loopw [7] (fun i wr => ∃ k : Nat, k ≤ cnt T.data.toList ∧ i = .int .i64 k ∧ RdSt c w wr (w.heap.size + 1 + 1) (tellN T.data.toList k)) (fun i _ => cnt T.data.toList - (intOf i).toNat)
  case atStart => exact ⟨0, Nat.zero_le _, rfl, K0⟩
  case round =>
    obtain ⟨k, hk, rfl, K4⟩ := hrel
    have hg4 := K4.lt
    by_cases hlt : 8 + 4 * (k : Int) + 3 < (T.size : Int)
    · have hk8 : k < cnt T.data.toList ∧ k < 8 := by have := HCN.out; omega
      have HK8 := Lib.hid hk8
      have hcl := blk_cell K4.out (7 + k)
      have hfr := blk_free K4.out (7 + k)
      rw [word_cell _ k hk8.2] at hcl
      clear hk8
      go_wp2
      go_loop [8, 9] (fun n j => ∃ j' : Nat, j' ≤ 4 ∧ j = .int .i64 j' ∧ n = .int .i64 (accB T.data.toList (8 + 4 * k) j')) (fun _ j => 4 - (intOf j).toNat)
      case atStart => exact ⟨0, by omega, rfl, rfl⟩
      case round =>
        obtain ⟨j', hj, rfl, rfl⟩ := hrel
        by_cases hjl : j' < 4
        · have hidx : ∀ w, (Instr.index 9 (.string T) (.int .i64 (8 + 4 * (k : Int) + (j' : Int)))).run Try.prog w = .ok (.int .u8 (at8 T.data.toList (8 + 4 * k + j'))) w := fun w => by
            rw [show (8 + 4 * (k : Int) + (j' : Int)) = ((8 + 4 * k + j' : Nat) : Int) by omega]
            exact idx_at T _ (by omega) w
          have hy := at8_in T.data.toList (8 + 4 * k + j')
          have hac := (acc_in T.data.toList (8 + 4 * k)).2.2 j' hjl
          have HA : Hid (accB T.data.toList (8 + 4 * k) (j' + 1) = 256 * accB T.data.toList (8 + 4 * k) j' + at8 T.data.toList (8 + 4 * k + j')) := Lib.hid rfl
          generalize accB T.data.toList (8 + 4 * k) j' = a at *
          generalize at8 T.data.toList (8 + 4 * k + j') = y at *
          obtain ⟨y1, y2⟩ := hy
          obtain ⟨z1, z2⟩ := hac
          go_wp2
          go_round
          case rel => exact ⟨j' + 1, by omega, by go_num, by rw [HA.out]⟩
          case measure => simp [intOf]; omega
        · obtain rfl : j' = 4 := by omega
          have hac := acc_in T.data.toList (8 + 4 * k)
          have HA4 := Lib.hid (acc_four T.data.toList (8 + 4 * k))
          have HS := Lib.hid (tell_set T.data.toList k HK8.out.2)
          obtain ⟨z1, z2, -⟩ := hac
          generalize accB T.data.toList (8 + 4 * k) 4 = a at *
          by_cases hbig : 2147483647 < a
          · have HV : Hid (rd4 T.data.toList (8 + 4 * k) = a - 4294967296) := Lib.hid (by rw [HA4.out]; unfold sig; rw [if_pos hbig])
            go_wp2
            rw [← HV.out]
            have K6 := K4.set (7 + k) _ HS.out
            clear hcl hfr
            go_roundw
            case rel => exact ⟨k + 1, by have := HK8.out.1; omega, by go_num, K6⟩
            case measure => simp [intOf]; have := HK8.out.1; omega
          · have HV : Hid (rd4 T.data.toList (8 + 4 * k) = a) := Lib.hid (by rw [HA4.out]; unfold sig; rw [if_neg hbig])
            go_wp2
            rw [← HV.out]
            have K6 := K4.set (7 + k) _ HS.out
            clear hcl hfr
            go_roundw
            case rel => exact ⟨k + 1, by have := HK8.out.1; omega, by go_num, K6⟩
            case measure => simp [intOf]; have := HK8.out.1; omega
    · have hkc : k = cnt T.data.toList := by have := HCN.out; omega
      have hkb : k ≤ 8 := by have := HCN.out; omega
      have HDOC : Hid (tkB c T.data.toList = true ↔ (8 ≤ T.data.toList.length ∧ T.data.toList.length ≤ 40) ∧ (mayM c (tellN T.data.toList k) = true ∧ bytesM c (tellN T.data.toList k) = T.data.toList)) := Lib.hid (by rw [hkc]; exact doc_iff c T.data.toList)
      have ha := K4.cfg
      have hcl := blk_cell K4.out
      have HT : Hid (takM c T.data.toList = if tkB c T.data.toList = true then (tellN T.data.toList k, 0) else (m0, 2)) := Lib.hid (by rw [hkc]; rfl)
      have HL : Hid (8 ≤ T.data.toList.length ∧ T.data.toList.length ≤ 40) := Lib.hid ⟨h8, h40⟩
      clear hkc HCN
      generalize tellN T.data.toList k = M at *
      rcases Bool.eq_false_or_eq_true (mayM c M) with hm | hm
      · have HP : Hid (putM c M = (bytesM c M, 0)) := Lib.hid (by unfold putM; rw [if_pos hm])
        by_cases hb : bytesM c M = T.data.toList
        · have HE : Hid (takM c T.data.toList = (M, 0)) := Lib.hid (by rw [HT.out, if_pos (HDOC.out.2 ⟨HL.out, hm, hb⟩)])
          have HB : Hid (ByteArray.mk (bytesM c M).toArray = T) := Lib.hid (by rw [hb])
          clear hm hb HDOC HT HL
          go_wp2_with (fail)
          refine (refPut_any c M _).mono ?_
          rintro e w5 ⟨rfl, hb5⟩
          rw [HP.out]
          simp only
          rw [HB.out]
          have K5 := K4.step hb5
          clear hb5 ha hcl K4
          have hcl := blk_cell K5.out
          go_wp2_with ((with_reducible refine wpList_store_row (o := ⟨none, _, _, _, _, _⟩) rfl 28 (.tmp 4) (.tmp 94) rfl (w.heap.size + 1) (mcells M) ?sx ?sy 28 ?old ?sg ?si ?so ?s1 ?_); (case sx => rfl); (case sy => rfl); (case sg => exact K5.res); (case si => kernel_rfl); (case so => rfl); (case s1 => kernel_rfl))
          rw [HE.out]
          exact reftake_ret rfl rfl rfl (setRow_heap _ _ _ _ _ _ K5.res) (below_setRow K5.below (by omega) _)
        · have HE : Hid (takM c T.data.toList = (m0, 2)) := Lib.hid (by rw [HT.out, if_neg (fun h => hb (HDOC.out.1 h).2.2)])
          have hq : ((ByteArray.mk (bytesM c M).toArray).toList == T.toList) = false := by
            rw [ByteArray.toList_eq, ByteArray.toList_eq]
            simpa using hb
          clear hm hb HDOC HT HL
          go_wp2_with (fail)
          refine (refPut_any c M _).mono ?_
          rintro e w5 ⟨rfl, hb5⟩
          rw [HP.out]
          simp only
          generalize ByteArray.mk (bytesM c M).toArray = A at *
          have K5 := K4.step hb5
          clear hb5 ha hcl K4
          go_wp2_with ((with_reducible refine wpList_store_row (o := ⟨none, _, _, _, _, _⟩) rfl 28 (.tmp 4) (.tmp 93) rfl (w.heap.size + 1) (mcells m0) ?sx ?sy 28 ?old ?sg ?si ?so ?s1 ?_); (case sx => rfl); (case sy => rfl); (case sg => exact K5.res); (case si => kernel_rfl); (case so => rfl); (case s1 => kernel_rfl))
          rw [HE.out]
          exact reftake_ret rfl rfl rfl (setRow_heap _ _ _ _ _ _ K5.res) (below_setRow K5.below (by omega) _)
      · have HP : Hid (putM c M = ([], 1)) := Lib.hid (by unfold putM; rw [hm]; rfl)
        have HE : Hid (takM c T.data.toList = (m0, 2)) := Lib.hid (by rw [HT.out, if_neg (fun h => by have := (HDOC.out.1 h).2.1; rw [hm] at this; cases this)])
        clear hm HDOC HT HL
        go_wp2_with (fail)
        refine (refPut_any c M _).mono ?_
        rintro e w5 ⟨rfl, hb5⟩
        rw [HP.out]
        simp only
        have K5 := K4.step hb5
        clear hb5 ha hcl K4
        go_wp2_with ((with_reducible refine wpList_store_row (o := ⟨none, _, _, _, _, _⟩) rfl 28 (.tmp 4) (.tmp 93) rfl (w.heap.size + 1) (mcells m0) ?sx ?sy 28 ?old ?sg ?si ?so ?s1 ?_); (case sx => rfl); (case sy => rfl); (case sg => exact K5.res); (case si => kernel_rfl); (case so => rfl); (case s1 => kernel_rfl))
        rw [HE.out]
        exact reftake_ret rfl rfl rfl (setRow_heap _ _ _ _ _ _ K5.res) (below_setRow K5.below (by omega) _)

/-- Take, the document's. -/
theorem refTake_any (c : Cfg) (T : ByteArray) (w : World) : Calls Try.prog 10 #[cv c, .string T] w (RetT' w (takM c T.data.toList).1 (takM c T.data.toList).2) := by
  by_cases h : T.size < 8 ∨ 40 < T.size
  · rw [show takM c T.data.toList = (m0, 2) by
      unfold takM
      rw [if_neg]
      intro hk
      have := ((doc_iff c T.data.toList).1 hk).1
      rw [← size_len] at this
      omega]
    exact reftake_len c T w h
  · exact reftake_in c T w (by omega) (by omega)

end Go.Proofs.Ytjbodkmjhnlhiaa
