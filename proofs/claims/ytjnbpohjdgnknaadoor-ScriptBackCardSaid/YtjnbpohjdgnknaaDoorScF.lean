/-
  What readSizes does.
-/
import Derived.Test.YtjnbpohjdgnknaaDoorScR
import Derived.Laws.CopyOwn
namespace Go.Proofs.YtjnbpohjdgnknaaDoor
open Go Go.RowKit

/-- The bytes of a text, one by one. -/
def Idx (T : ByteArray) (k : Int) (x : UInt8) : Prop := ∀ w : World, (Instr.index 9 (.string T) (.int .i64 k)).run Tryd.prog w = .ok (.int .u8 x.toNat) w
theorem idx13 (x0 x1 x2 x3 x4 x5 x6 x7 x8 x9 x10 x11 x12 : UInt8) : Idx ⟨#[x0, x1, x2, x3, x4, x5, x6, x7, x8, x9, x10, x11, x12]⟩ 0 x0 ∧ Idx ⟨#[x0, x1, x2, x3, x4, x5, x6, x7, x8, x9, x10, x11, x12]⟩ 1 x1 ∧ Idx ⟨#[x0, x1, x2, x3, x4, x5, x6, x7, x8, x9, x10, x11, x12]⟩ 2 x2 ∧ Idx ⟨#[x0, x1, x2, x3, x4, x5, x6, x7, x8, x9, x10, x11, x12]⟩ 3 x3 ∧ Idx ⟨#[x0, x1, x2, x3, x4, x5, x6, x7, x8, x9, x10, x11, x12]⟩ 4 x4 ∧ Idx ⟨#[x0, x1, x2, x3, x4, x5, x6, x7, x8, x9, x10, x11, x12]⟩ 5 x5 ∧ Idx ⟨#[x0, x1, x2, x3, x4, x5, x6, x7, x8, x9, x10, x11, x12]⟩ 6 x6 ∧ Idx ⟨#[x0, x1, x2, x3, x4, x5, x6, x7, x8, x9, x10, x11, x12]⟩ 7 x7 ∧ Idx ⟨#[x0, x1, x2, x3, x4, x5, x6, x7, x8, x9, x10, x11, x12]⟩ 8 x8 ∧ Idx ⟨#[x0, x1, x2, x3, x4, x5, x6, x7, x8, x9, x10, x11, x12]⟩ 9 x9 ∧ Idx ⟨#[x0, x1, x2, x3, x4, x5, x6, x7, x8, x9, x10, x11, x12]⟩ 10 x10 ∧ Idx ⟨#[x0, x1, x2, x3, x4, x5, x6, x7, x8, x9, x10, x11, x12]⟩ 11 x11 ∧ Idx ⟨#[x0, x1, x2, x3, x4, x5, x6, x7, x8, x9, x10, x11, x12]⟩ 12 x12 := ⟨(fun _ => by kernel_rfl), (fun _ => by kernel_rfl), (fun _ => by kernel_rfl), (fun _ => by kernel_rfl), (fun _ => by kernel_rfl), (fun _ => by kernel_rfl), (fun _ => by kernel_rfl), (fun _ => by kernel_rfl), (fun _ => by kernel_rfl), (fun _ => by kernel_rfl), (fun _ => by kernel_rfl), (fun _ => by kernel_rfl), (fun _ => by kernel_rfl)⟩
theorem conv8 (x : UInt8) (w : World) : (convert 5 3 (.int .u8 x.toNat)).run Tryd.prog w = .ok (.int .i64 x.toNat) w := by
  have := byte_wrap x
  have e : (convert 5 3 (.int .u8 x.toNat)).run Tryd.prog w = .ok (.int .i64 (IntKind.i64.wrap x.toNat)) w := by kernel_rfl
  rw [e, this]
theorem pw_le (a : UInt8) : pw a ≤ 9223372036854775807 := by
  unfold pw
  split
  · omega
  · have := two_lt a.toNat (by omega)
    omega
theorem n8_le (a : UInt8) : n8 a ≤ 9223372036854775807 := by
  have := n8_bound a
  omega
theorem cfgM_fits (b : List UInt8) : (cfgM b).fits := ⟨n8_le _, pw_le _, pw_le _, n8_le _, pw_le _, pw_le _, n8_le _, n8_le _, n8_le _, n8_le _, n8_le _, n8_le _, n8_le _⟩

abbrev c0 : Cfg := ⟨0, 0, 0, 0, 0, 0, 0, 0, 0, 0, 0, 0, 0⟩
/-- What a call gives that reads a machine's sizes. -/
def GaveZ (b1 b2 : Nat) (c : Cfg) (q : List UInt8) (w : World) (e : Ending) (w' : World) : Prop :=
  Kept b2 w.heap.size w w' ∧ (okC c = true → e = .returned (.tuple #[cv c, .int .i64 0]) ∧ Nx w' b1 b2 q) ∧ (okC c = false → e = .returned (.tuple #[cv c0, .int .i64 1]))
theorem sizes_ret {w w1 w3 : World} {b1 b2 : Nat} {L0 L LL : Array Value} {q : List UInt8} {c : Cfg} {a : Act} (hp : a.tmps.getD 2 undef = .pointer (some ⟨w.heap.size, 0, none⟩)) (hd : a.defers = []) (EZ : EndZ w w1 w3 b1 b2 24 L0 L q) (hb2 : b2 < w.heap.size) (hb1 : b1 < w.heap.size)
    (h : (okC c = true ∧ LL = cL c ∧ a.tmps.getD 3 undef = .int .i64 0 ∧ True = True) ∨ (okC c = false ∧ LL = cL c0 ∧ a.tmps.getD 3 undef = .int .i64 1)) :
    bodyPost Tryd.prog Tryd.f22 (GaveZ b1 b2 c q w) Exit.ret a (w3.setRow w.heap.size LL) := by
  have hL : LL.size = 13 := by rcases h with ⟨_, rfl, _⟩ | ⟨_, rfl, _⟩ <;> rfl
  have hbr := below_setRow (Below.refl w.heap.size w3) (Nat.le_refl _) LL
  have hk : Kept b2 w.heap.size w (w3.setRow w.heap.size LL) := EZ.kept.high hbr (by omega)
  refine bodyPost_ret (v := .tuple #[.agg LL, a.tmps.getD 3 undef]) (results_cell_two Tryd.results22 _ _ w.heap.size 24 _ (0, 0) _ hp (setRow_heap _ _ _ _ _ _ EZ.box) Tryd.underlying24 rfl (by rw [hL]; kernel_rfl)) hd ?_
  refine ⟨hk, fun hok => ?_, fun hok => ?_⟩
  · rcases h with ⟨_, rfl, e, _⟩ | ⟨h, _⟩
    · rw [e]
      exact ⟨rfl, EZ.next.high hbr hb1 hb2⟩
    · rw [hok] at h; cases h
  · rcases h with ⟨h, _⟩ | ⟨_, rfl, e⟩
    · rw [hok] at h; cases h
    · rw [e]

set_option maxRecDepth 100000 in
set_option maxHeartbeats 4000000 in
theorem sizes_yes (b1 b2 : Nat) (x0 x1 x2 x3 x4 x5 x6 x7 x8 x9 x10 x11 x12 : UInt8) (q : List UInt8) (w : World) (h : Nx w b1 b2 (x0 :: x1 :: x2 :: x3 :: x4 :: x5 :: x6 :: x7 :: x8 :: x9 :: x10 :: x11 :: x12 :: q)) :
    Calls Tryd.prog 22 #[nextV b1 b2] w (GaveZ b1 b2 ⟨x0.toNat, pw x1, pw x2, x3.toNat, pw x4, pw x5, x6.toNat, x7.toNat, x8.toNat, x9.toNat, x10.toNat, x11.toNat, x12.toNat⟩ q w) := by
  have hn := next_take (b1 := b1) (b2 := b2) [x0, x1, x2, x3, x4, x5, x6, x7, x8, x9, x10, x11, x12] q
  obtain ⟨i0, i1, i2, i3, i4, i5, i6, i7, i8, i9, i10, i11, i12⟩ := idx13 x0 x1 x2 x3 x4 x5 x6 x7 x8 x9 x10 x11 x12
  unfold Idx at *
  have H := Lib.hid (h.kept ((Below.refl _ w).alloc (Nat.le_refl _) (.cells (cL ⟨0, 0, 0, 0, 0, 0, 0, 0, 0, 0, 0, 0, 0⟩) 24)))
  have hb2 := h.lt
  have hb1 := h.lt1
  have HN := Lib.hid hn
  clear h hn
  generalize hT : (ByteArray.mk #[x0, x1, x2, x3, x4, x5, x6, x7, x8, x9, x10, x11, x12]) = T at *
  have HT := Lib.hid hT
  clear hT
  have hcv := conv8
  have HF := Lib.hid (cfgM_fits [x0, x1, x2, x3, x4, x5, x6, x7, x8, x9, x10, x11, x12])
  go_enter Tryd.func22, Tryd.ntmps22
  go_wp2_with fail
  refine (HN.out _ H.out).mono ?_
  rintro e w1 ⟨rfl, hn1, ho1⟩
  go_wp2_with fail
  refine wp_region_noPanic ?_
  refine wp_region_held_drew (S := fun _ => True) (by kernel_rfl) trivial (fun hh => ?_)
  refine wpAnyH_take (fuel := 42) (i := 0) (oi := ⟨some 15, _, _, _, _, _⟩) (v := .string T) rfl (by kernel_rfl) (by kernel_rfl) (by kernel_rfl) (fun _ _ _ h => h) (Or.inl ⟨by rfl, ?_⟩) trivial ?_
  · intro w' _
    go_simp
  simp only [Act.put, List.setIfInBounds_toArray]
  refine wpAnyH_take (fuel := 41) (i := 1) (oi := ⟨some 16, _, _, _, _, _⟩) (v := .int .u8 x0.toNat) rfl (by kernel_rfl) (by kernel_rfl) (by kernel_rfl) (fun _ _ _ h => h) (Or.inl ⟨by rfl, ?_⟩) trivial ?_
  · intro w' _
    go_simp
  simp only [Act.put, List.setIfInBounds_toArray]
  refine wpAnyH_take (fuel := 40) (i := 2) (oi := ⟨some 17, _, _, _, _, _⟩) (v := .int .i64 x0.toNat) rfl (by kernel_rfl) (by kernel_rfl) (by kernel_rfl) (fun _ _ _ h => h) (Or.inl ⟨by rfl, ?_⟩) trivial ?_
  · intro w' _
    go_simp
  simp only [Act.put, List.setIfInBounds_toArray]
  refine wpAnyH_take (fuel := 39) (i := 3) (oi := ⟨some 18, _, _, _, _, _⟩) (v := .string T) rfl (by kernel_rfl) (by kernel_rfl) (by kernel_rfl) (fun _ _ _ h => h) (Or.inl ⟨by rfl, ?_⟩) trivial ?_
  · intro w' _
    go_simp
  simp only [Act.put, List.setIfInBounds_toArray]
  refine wpAnyH_take (fuel := 38) (i := 4) (oi := ⟨some 19, _, _, _, _, _⟩) (v := .int .u8 x1.toNat) rfl (by kernel_rfl) (by kernel_rfl) (by kernel_rfl) (fun _ _ _ h => h) (Or.inl ⟨by rfl, ?_⟩) trivial ?_
  · intro w' _
    go_simp
  simp only [Act.put, List.setIfInBounds_toArray]
  refine wpAnyH_take (fuel := 37) (i := 6) (oi := ⟨some 21, _, _, _, _, _⟩) (v := .string T) rfl (by kernel_rfl) (by kernel_rfl) (by kernel_rfl) (fun _ _ _ h => h) (Or.inl ⟨by rfl, ?_⟩) trivial ?_
  · intro w' _
    go_simp
  simp only [Act.put, List.setIfInBounds_toArray]
  refine wpAnyH_take (fuel := 36) (i := 7) (oi := ⟨some 22, _, _, _, _, _⟩) (v := .int .u8 x2.toNat) rfl (by kernel_rfl) (by kernel_rfl) (by kernel_rfl) (fun _ _ _ h => h) (Or.inl ⟨by rfl, ?_⟩) trivial ?_
  · intro w' _
    go_simp
  simp only [Act.put, List.setIfInBounds_toArray]
  refine wpAnyH_take (fuel := 35) (i := 9) (oi := ⟨some 24, _, _, _, _, _⟩) (v := .string T) rfl (by kernel_rfl) (by kernel_rfl) (by kernel_rfl) (fun _ _ _ h => h) (Or.inl ⟨by rfl, ?_⟩) trivial ?_
  · intro w' _
    go_simp
  simp only [Act.put, List.setIfInBounds_toArray]
  refine wpAnyH_take (fuel := 34) (i := 10) (oi := ⟨some 25, _, _, _, _, _⟩) (v := .int .u8 x3.toNat) rfl (by kernel_rfl) (by kernel_rfl) (by kernel_rfl) (fun _ _ _ h => h) (Or.inl ⟨by rfl, ?_⟩) trivial ?_
  · intro w' _
    go_simp
  simp only [Act.put, List.setIfInBounds_toArray]
  refine wpAnyH_take (fuel := 33) (i := 11) (oi := ⟨some 26, _, _, _, _, _⟩) (v := .int .i64 x3.toNat) rfl (by kernel_rfl) (by kernel_rfl) (by kernel_rfl) (fun _ _ _ h => h) (Or.inl ⟨by rfl, ?_⟩) trivial ?_
  · intro w' _
    go_simp
  simp only [Act.put, List.setIfInBounds_toArray]
  refine wpAnyH_take (fuel := 32) (i := 12) (oi := ⟨some 27, _, _, _, _, _⟩) (v := .string T) rfl (by kernel_rfl) (by kernel_rfl) (by kernel_rfl) (fun _ _ _ h => h) (Or.inl ⟨by rfl, ?_⟩) trivial ?_
  · intro w' _
    go_simp
  simp only [Act.put, List.setIfInBounds_toArray]
  refine wpAnyH_take (fuel := 31) (i := 13) (oi := ⟨some 28, _, _, _, _, _⟩) (v := .int .u8 x4.toNat) rfl (by kernel_rfl) (by kernel_rfl) (by kernel_rfl) (fun _ _ _ h => h) (Or.inl ⟨by rfl, ?_⟩) trivial ?_
  · intro w' _
    go_simp
  simp only [Act.put, List.setIfInBounds_toArray]
  refine wpAnyH_take (fuel := 30) (i := 15) (oi := ⟨some 30, _, _, _, _, _⟩) (v := .string T) rfl (by kernel_rfl) (by kernel_rfl) (by kernel_rfl) (fun _ _ _ h => h) (Or.inl ⟨by rfl, ?_⟩) trivial ?_
  · intro w' _
    go_simp
  simp only [Act.put, List.setIfInBounds_toArray]
  refine wpAnyH_take (fuel := 29) (i := 16) (oi := ⟨some 31, _, _, _, _, _⟩) (v := .int .u8 x5.toNat) rfl (by kernel_rfl) (by kernel_rfl) (by kernel_rfl) (fun _ _ _ h => h) (Or.inl ⟨by rfl, ?_⟩) trivial ?_
  · intro w' _
    go_simp
  simp only [Act.put, List.setIfInBounds_toArray]
  refine wpAnyH_take (fuel := 28) (i := 18) (oi := ⟨some 33, _, _, _, _, _⟩) (v := .string T) rfl (by kernel_rfl) (by kernel_rfl) (by kernel_rfl) (fun _ _ _ h => h) (Or.inl ⟨by rfl, ?_⟩) trivial ?_
  · intro w' _
    go_simp
  simp only [Act.put, List.setIfInBounds_toArray]
  refine wpAnyH_take (fuel := 27) (i := 19) (oi := ⟨some 34, _, _, _, _, _⟩) (v := .int .u8 x6.toNat) rfl (by kernel_rfl) (by kernel_rfl) (by kernel_rfl) (fun _ _ _ h => h) (Or.inl ⟨by rfl, ?_⟩) trivial ?_
  · intro w' _
    go_simp
  simp only [Act.put, List.setIfInBounds_toArray]
  refine wpAnyH_take (fuel := 26) (i := 20) (oi := ⟨some 35, _, _, _, _, _⟩) (v := .int .i64 x6.toNat) rfl (by kernel_rfl) (by kernel_rfl) (by kernel_rfl) (fun _ _ _ h => h) (Or.inl ⟨by rfl, ?_⟩) trivial ?_
  · intro w' _
    go_simp
  simp only [Act.put, List.setIfInBounds_toArray]
  refine wpAnyH_take (fuel := 25) (i := 21) (oi := ⟨some 36, _, _, _, _, _⟩) (v := .string T) rfl (by kernel_rfl) (by kernel_rfl) (by kernel_rfl) (fun _ _ _ h => h) (Or.inl ⟨by rfl, ?_⟩) trivial ?_
  · intro w' _
    go_simp
  simp only [Act.put, List.setIfInBounds_toArray]
  refine wpAnyH_take (fuel := 24) (i := 22) (oi := ⟨some 37, _, _, _, _, _⟩) (v := .int .u8 x7.toNat) rfl (by kernel_rfl) (by kernel_rfl) (by kernel_rfl) (fun _ _ _ h => h) (Or.inl ⟨by rfl, ?_⟩) trivial ?_
  · intro w' _
    go_simp
  simp only [Act.put, List.setIfInBounds_toArray]
  refine wpAnyH_take (fuel := 23) (i := 23) (oi := ⟨some 38, _, _, _, _, _⟩) (v := .int .i64 x7.toNat) rfl (by kernel_rfl) (by kernel_rfl) (by kernel_rfl) (fun _ _ _ h => h) (Or.inl ⟨by rfl, ?_⟩) trivial ?_
  · intro w' _
    go_simp
  simp only [Act.put, List.setIfInBounds_toArray]
  refine wpAnyH_take (fuel := 22) (i := 24) (oi := ⟨some 39, _, _, _, _, _⟩) (v := .string T) rfl (by kernel_rfl) (by kernel_rfl) (by kernel_rfl) (fun _ _ _ h => h) (Or.inl ⟨by rfl, ?_⟩) trivial ?_
  · intro w' _
    go_simp
  simp only [Act.put, List.setIfInBounds_toArray]
  refine wpAnyH_take (fuel := 21) (i := 25) (oi := ⟨some 40, _, _, _, _, _⟩) (v := .int .u8 x8.toNat) rfl (by kernel_rfl) (by kernel_rfl) (by kernel_rfl) (fun _ _ _ h => h) (Or.inl ⟨by rfl, ?_⟩) trivial ?_
  · intro w' _
    go_simp
  simp only [Act.put, List.setIfInBounds_toArray]
  refine wpAnyH_take (fuel := 20) (i := 26) (oi := ⟨some 41, _, _, _, _, _⟩) (v := .int .i64 x8.toNat) rfl (by kernel_rfl) (by kernel_rfl) (by kernel_rfl) (fun _ _ _ h => h) (Or.inl ⟨by rfl, ?_⟩) trivial ?_
  · intro w' _
    go_simp
  simp only [Act.put, List.setIfInBounds_toArray]
  refine wpAnyH_take (fuel := 19) (i := 27) (oi := ⟨some 42, _, _, _, _, _⟩) (v := .string T) rfl (by kernel_rfl) (by kernel_rfl) (by kernel_rfl) (fun _ _ _ h => h) (Or.inl ⟨by rfl, ?_⟩) trivial ?_
  · intro w' _
    go_simp
  simp only [Act.put, List.setIfInBounds_toArray]
  refine wpAnyH_take (fuel := 18) (i := 28) (oi := ⟨some 43, _, _, _, _, _⟩) (v := .int .u8 x9.toNat) rfl (by kernel_rfl) (by kernel_rfl) (by kernel_rfl) (fun _ _ _ h => h) (Or.inl ⟨by rfl, ?_⟩) trivial ?_
  · intro w' _
    go_simp
  simp only [Act.put, List.setIfInBounds_toArray]
  refine wpAnyH_take (fuel := 17) (i := 29) (oi := ⟨some 44, _, _, _, _, _⟩) (v := .int .i64 x9.toNat) rfl (by kernel_rfl) (by kernel_rfl) (by kernel_rfl) (fun _ _ _ h => h) (Or.inl ⟨by rfl, ?_⟩) trivial ?_
  · intro w' _
    go_simp
  simp only [Act.put, List.setIfInBounds_toArray]
  refine wpAnyH_take (fuel := 16) (i := 30) (oi := ⟨some 45, _, _, _, _, _⟩) (v := .string T) rfl (by kernel_rfl) (by kernel_rfl) (by kernel_rfl) (fun _ _ _ h => h) (Or.inl ⟨by rfl, ?_⟩) trivial ?_
  · intro w' _
    go_simp
  simp only [Act.put, List.setIfInBounds_toArray]
  refine wpAnyH_take (fuel := 15) (i := 31) (oi := ⟨some 46, _, _, _, _, _⟩) (v := .int .u8 x10.toNat) rfl (by kernel_rfl) (by kernel_rfl) (by kernel_rfl) (fun _ _ _ h => h) (Or.inl ⟨by rfl, ?_⟩) trivial ?_
  · intro w' _
    go_simp
  simp only [Act.put, List.setIfInBounds_toArray]
  refine wpAnyH_take (fuel := 14) (i := 32) (oi := ⟨some 47, _, _, _, _, _⟩) (v := .int .i64 x10.toNat) rfl (by kernel_rfl) (by kernel_rfl) (by kernel_rfl) (fun _ _ _ h => h) (Or.inl ⟨by rfl, ?_⟩) trivial ?_
  · intro w' _
    go_simp
  simp only [Act.put, List.setIfInBounds_toArray]
  refine wpAnyH_take (fuel := 13) (i := 33) (oi := ⟨some 48, _, _, _, _, _⟩) (v := .string T) rfl (by kernel_rfl) (by kernel_rfl) (by kernel_rfl) (fun _ _ _ h => h) (Or.inl ⟨by rfl, ?_⟩) trivial ?_
  · intro w' _
    go_simp
  simp only [Act.put, List.setIfInBounds_toArray]
  refine wpAnyH_take (fuel := 12) (i := 34) (oi := ⟨some 49, _, _, _, _, _⟩) (v := .int .u8 x11.toNat) rfl (by kernel_rfl) (by kernel_rfl) (by kernel_rfl) (fun _ _ _ h => h) (Or.inl ⟨by rfl, ?_⟩) trivial ?_
  · intro w' _
    go_simp
  simp only [Act.put, List.setIfInBounds_toArray]
  refine wpAnyH_take (fuel := 11) (i := 35) (oi := ⟨some 50, _, _, _, _, _⟩) (v := .int .i64 x11.toNat) rfl (by kernel_rfl) (by kernel_rfl) (by kernel_rfl) (fun _ _ _ h => h) (Or.inl ⟨by rfl, ?_⟩) trivial ?_
  · intro w' _
    go_simp
  simp only [Act.put, List.setIfInBounds_toArray]
  refine wpAnyH_take (fuel := 10) (i := 36) (oi := ⟨some 51, _, _, _, _, _⟩) (v := .string T) rfl (by kernel_rfl) (by kernel_rfl) (by kernel_rfl) (fun _ _ _ h => h) (Or.inl ⟨by rfl, ?_⟩) trivial ?_
  · intro w' _
    go_simp
  simp only [Act.put, List.setIfInBounds_toArray]
  refine wpAnyH_take (fuel := 9) (i := 37) (oi := ⟨some 52, _, _, _, _, _⟩) (v := .int .u8 x12.toNat) rfl (by kernel_rfl) (by kernel_rfl) (by kernel_rfl) (fun _ _ _ h => h) (Or.inl ⟨by rfl, ?_⟩) trivial ?_
  · intro w' _
    go_simp
  simp only [Act.put, List.setIfInBounds_toArray]
  refine wpAnyH_take (fuel := 8) (i := 38) (oi := ⟨some 53, _, _, _, _, _⟩) (v := .int .i64 x12.toNat) rfl (by kernel_rfl) (by kernel_rfl) (by kernel_rfl) (fun _ _ _ h => h) (Or.inl ⟨by rfl, ?_⟩) trivial ?_
  · intro w' _
    go_simp
  simp only [Act.put, List.setIfInBounds_toArray]
  refine wpAnyH_take (fuel := 7) (i := 39) (oi := ⟨some 54, _, _, _, _, _⟩) (v := .agg #[.int .i64 x10.toNat, .int .i64 x11.toNat, .int .i64 x12.toNat]) rfl (by kernel_rfl) (by kernel_rfl) (by kernel_rfl) (fun _ _ _ h => h) (Or.inl ⟨by rfl, ?_⟩) trivial ?_
  · intro w' _
    go_simp
  simp only [Act.put, List.setIfInBounds_toArray]
  refine wpAnyH_ready (fuel := 6) (rs := [5, 41]) (by kernel_rfl) (by simp) ?_
  refine (AllReadyH.cons (o := ⟨some 20, _, _, _, _, _⟩) rfl (fun K hK => ?_) (AllReadyH.cons (o := ⟨some 6, _, _, _, _, _⟩) rfl (fun K hK => ?_) AllReadyH.nil))
  · go_simp
    refine (ofPower_any x1 _).mono ?_
    rintro e w2 ⟨rfl, rfl⟩
    show K _ _
    refine hK.out _ _ trivial (fun _ => ?_)
    clear hK K
    try simp only [Act.put, List.setIfInBounds_toArray]
    refine wpAnyH_ready (fuel := 5) (rs := [8, 41]) (by kernel_rfl) (by simp) ?_
    refine (AllReadyH.cons (o := ⟨some 23, _, _, _, _, _⟩) rfl (fun K hK => ?_) (AllReadyH.cons (o := ⟨some 6, _, _, _, _, _⟩) rfl (fun K hK => ?_) AllReadyH.nil))
    · go_simp
      refine (ofPower_any x2 _).mono ?_
      rintro e w2 ⟨rfl, rfl⟩
      show K _ _
      refine hK.out _ _ trivial (fun _ => ?_)
      clear hK K
      try simp only [Act.put, List.setIfInBounds_toArray]
      refine wpAnyH_ready (fuel := 4) (rs := [14, 41]) (by kernel_rfl) (by simp) ?_
      refine (AllReadyH.cons (o := ⟨some 29, _, _, _, _, _⟩) rfl (fun K hK => ?_) (AllReadyH.cons (o := ⟨some 6, _, _, _, _, _⟩) rfl (fun K hK => ?_) AllReadyH.nil))
      · go_simp
        refine (ofPower_any x4 _).mono ?_
        rintro e w2 ⟨rfl, rfl⟩
        show K _ _
        refine hK.out _ _ trivial (fun _ => ?_)
        clear hK K
        try simp only [Act.put, List.setIfInBounds_toArray]
        refine wpAnyH_ready (fuel := 3) (rs := [17, 41]) (by kernel_rfl) (by simp) ?_
        refine (AllReadyH.cons (o := ⟨some 32, _, _, _, _, _⟩) rfl (fun K hK => ?_) (AllReadyH.cons (o := ⟨some 6, _, _, _, _, _⟩) rfl (fun K hK => ?_) AllReadyH.nil))
        · go_simp
          refine (ofPower_any x5 _).mono ?_
          rintro e w2 ⟨rfl, rfl⟩
          show K _ _
          refine hK.out _ _ trivial (fun _ => ?_)
          clear hK K
          try simp only [Act.put, List.setIfInBounds_toArray]
          refine wpAnyH_take (fuel := 2) (i := 40) (oi := ⟨some 55, _, _, _, _, _⟩) (v := .agg #[.int .i64 x0.toNat, .int .i64 (pw x1), .int .i64 (pw x2), .int .i64 x3.toNat, .int .i64 (pw x4), .int .i64 (pw x5), .int .i64 x6.toNat, .int .i64 x7.toNat, .int .i64 x8.toNat, .int .i64 x9.toNat, .int .i64 x10.toNat, .int .i64 x11.toNat, .int .i64 x12.toNat]) rfl (by kernel_rfl) (by kernel_rfl) (by kernel_rfl) (fun _ _ _ h => h) (Or.inl ⟨by rfl, ?_⟩) trivial ?_
          · intro w' _
            go_simp
          simp only [Act.put, List.setIfInBounds_toArray]
          refine wpAnyH_ready (fuel := 1) (rs := [41]) (by kernel_rfl) (by simp) ?_
          refine (AllReadyH.cons (o := ⟨some 6, _, _, _, _, _⟩) rfl (fun K hK => ?_) AllReadyH.nil)
          · go_simp
            show K _ _
            refine hK.out _ _ trivial (fun _ => ?_)
            clear hK K
            try simp only [Act.put, List.setIfInBounds_toArray]
            refine wpAnyH_ready (fuel := 0) (rs := [42]) (by kernel_rfl) (by simp) ?_
            refine AllReadyH.cons (o := ⟨none, _, _, _, _, _⟩) rfl (fun K hK => ?_) AllReadyH.nil
            go_simp
            show K _ _
            refine hK.out _ _ trivial (fun _ => ?_)
            clear hK K
            refine wpAnyH_done (by kernel_rfl) ?_ _
            refine NoPanic.normal ?_
            rcases Bool.eq_false_or_eq_true (okC ⟨x0.toNat, pw x1, pw x2, x3.toNat, pw x4, pw x5, x6.toNat, x7.toNat, x8.toNat, x9.toNat, x10.toNat, x11.toNat, x12.toNat⟩) with hok | hok
            · have HK := Lib.hid hok
              have h0 := chk_ok ⟨x0.toNat, pw x1, pw x2, x3.toNat, pw x4, pw x5, x6.toNat, x7.toNat, x8.toNat, x9.toNat, x10.toNat, x11.toNat, x12.toNat⟩ hok
              clear hok
              go_wp2_with fail
              refine (check_any ⟨x0.toNat, pw x1, pw x2, x3.toNat, pw x4, pw x5, x6.toNat, x7.toNat, x8.toNat, x9.toNat, x10.toNat, x11.toNat, x12.toNat⟩ _ HF.out).mono ?_
              rintro e w3 ⟨rfl, hb3⟩
              have EZ := Lib.hid (endZ ho1 hb2 hn1 hb3)
              have hc3 := EZ.out.cell
              clear hb3
              go_wp2_with ((with_reducible refine wpList_store_row (o := ⟨none, _, _, _, _, _⟩) rfl 24 (.tmp 2) (.tmp 60) rfl w.heap.size (cL ⟨x0.toNat, pw x1, pw x2, x3.toNat, pw x4, pw x5, x6.toNat, x7.toNat, x8.toNat, x9.toNat, x10.toNat, x11.toNat, x12.toNat⟩) ?sx ?sy 24 ?old ?sg ?si ?so ?s1 ?_); (case sx => rfl); (case sy => rfl); (case sg => exact EZ.out.box); (case si => kernel_rfl); (case so => rfl); (case s1 => kernel_rfl))
              exact sizes_ret rfl rfl EZ.out hb2 hb1 (.inl ⟨HK.out, rfl, rfl, rfl⟩)
            · have HK := Lib.hid hok
              have h0 := chk_no ⟨x0.toNat, pw x1, pw x2, x3.toNat, pw x4, pw x5, x6.toNat, x7.toNat, x8.toNat, x9.toNat, x10.toNat, x11.toNat, x12.toNat⟩ hok
              clear hok
              go_wp2_with fail
              refine (check_any ⟨x0.toNat, pw x1, pw x2, x3.toNat, pw x4, pw x5, x6.toNat, x7.toNat, x8.toNat, x9.toNat, x10.toNat, x11.toNat, x12.toNat⟩ _ HF.out).mono ?_
              rintro e w3 ⟨rfl, hb3⟩
              have EZ := Lib.hid (endZ ho1 hb2 hn1 hb3)
              clear hb3
              go_wp2_with ((with_reducible refine wpList_store_row (o := ⟨none, _, _, _, _, _⟩) rfl 24 (.tmp 2) (.tmp 59) rfl w.heap.size (cL ⟨0, 0, 0, 0, 0, 0, 0, 0, 0, 0, 0, 0, 0⟩) ?sx ?sy 24 ?old ?sg ?si ?so ?s1 ?_); (case sx => rfl); (case sy => rfl); (case sg => exact EZ.out.box); (case si => kernel_rfl); (case so => rfl); (case s1 => kernel_rfl))
              exact sizes_ret rfl rfl EZ.out hb2 hb1 (.inr ⟨HK.out, rfl, rfl⟩)
        · go_simp
          show K _ _
          refine hK.out _ _ trivial (fun _ => ?_)
          clear hK K
          try simp only [Act.put, List.setIfInBounds_toArray]
          refine wpAnyH_ready (fuel := 2) (rs := [17]) (by kernel_rfl) (by simp) ?_
          refine (AllReadyH.cons (o := ⟨some 32, _, _, _, _, _⟩) rfl (fun K hK => ?_) AllReadyH.nil)
          · go_simp
            refine (ofPower_any x5 _).mono ?_
            rintro e w2 ⟨rfl, rfl⟩
            show K _ _
            refine hK.out _ _ trivial (fun _ => ?_)
            clear hK K
            try simp only [Act.put, List.setIfInBounds_toArray]
            refine wpAnyH_take (fuel := 1) (i := 40) (oi := ⟨some 55, _, _, _, _, _⟩) (v := .agg #[.int .i64 x0.toNat, .int .i64 (pw x1), .int .i64 (pw x2), .int .i64 x3.toNat, .int .i64 (pw x4), .int .i64 (pw x5), .int .i64 x6.toNat, .int .i64 x7.toNat, .int .i64 x8.toNat, .int .i64 x9.toNat, .int .i64 x10.toNat, .int .i64 x11.toNat, .int .i64 x12.toNat]) rfl (by kernel_rfl) (by kernel_rfl) (by kernel_rfl) (fun _ _ _ h => h) (Or.inl ⟨by rfl, ?_⟩) trivial ?_
            · intro w' _
              go_simp
            simp only [Act.put, List.setIfInBounds_toArray]
            refine wpAnyH_ready (fuel := 0) (rs := [42]) (by kernel_rfl) (by simp) ?_
            refine AllReadyH.cons (o := ⟨none, _, _, _, _, _⟩) rfl (fun K hK => ?_) AllReadyH.nil
            go_simp
            show K _ _
            refine hK.out _ _ trivial (fun _ => ?_)
            clear hK K
            refine wpAnyH_done (by kernel_rfl) ?_ _
            refine NoPanic.normal ?_
            rcases Bool.eq_false_or_eq_true (okC ⟨x0.toNat, pw x1, pw x2, x3.toNat, pw x4, pw x5, x6.toNat, x7.toNat, x8.toNat, x9.toNat, x10.toNat, x11.toNat, x12.toNat⟩) with hok | hok
            · have HK := Lib.hid hok
              have h0 := chk_ok ⟨x0.toNat, pw x1, pw x2, x3.toNat, pw x4, pw x5, x6.toNat, x7.toNat, x8.toNat, x9.toNat, x10.toNat, x11.toNat, x12.toNat⟩ hok
              clear hok
              go_wp2_with fail
              refine (check_any ⟨x0.toNat, pw x1, pw x2, x3.toNat, pw x4, pw x5, x6.toNat, x7.toNat, x8.toNat, x9.toNat, x10.toNat, x11.toNat, x12.toNat⟩ _ HF.out).mono ?_
              rintro e w3 ⟨rfl, hb3⟩
              have EZ := Lib.hid (endZ ho1 hb2 hn1 hb3)
              have hc3 := EZ.out.cell
              clear hb3
              go_wp2_with ((with_reducible refine wpList_store_row (o := ⟨none, _, _, _, _, _⟩) rfl 24 (.tmp 2) (.tmp 60) rfl w.heap.size (cL ⟨x0.toNat, pw x1, pw x2, x3.toNat, pw x4, pw x5, x6.toNat, x7.toNat, x8.toNat, x9.toNat, x10.toNat, x11.toNat, x12.toNat⟩) ?sx ?sy 24 ?old ?sg ?si ?so ?s1 ?_); (case sx => rfl); (case sy => rfl); (case sg => exact EZ.out.box); (case si => kernel_rfl); (case so => rfl); (case s1 => kernel_rfl))
              exact sizes_ret rfl rfl EZ.out hb2 hb1 (.inl ⟨HK.out, rfl, rfl, rfl⟩)
            · have HK := Lib.hid hok
              have h0 := chk_no ⟨x0.toNat, pw x1, pw x2, x3.toNat, pw x4, pw x5, x6.toNat, x7.toNat, x8.toNat, x9.toNat, x10.toNat, x11.toNat, x12.toNat⟩ hok
              clear hok
              go_wp2_with fail
              refine (check_any ⟨x0.toNat, pw x1, pw x2, x3.toNat, pw x4, pw x5, x6.toNat, x7.toNat, x8.toNat, x9.toNat, x10.toNat, x11.toNat, x12.toNat⟩ _ HF.out).mono ?_
              rintro e w3 ⟨rfl, hb3⟩
              have EZ := Lib.hid (endZ ho1 hb2 hn1 hb3)
              clear hb3
              go_wp2_with ((with_reducible refine wpList_store_row (o := ⟨none, _, _, _, _, _⟩) rfl 24 (.tmp 2) (.tmp 59) rfl w.heap.size (cL ⟨0, 0, 0, 0, 0, 0, 0, 0, 0, 0, 0, 0, 0⟩) ?sx ?sy 24 ?old ?sg ?si ?so ?s1 ?_); (case sx => rfl); (case sy => rfl); (case sg => exact EZ.out.box); (case si => kernel_rfl); (case so => rfl); (case s1 => kernel_rfl))
              exact sizes_ret rfl rfl EZ.out hb2 hb1 (.inr ⟨HK.out, rfl, rfl⟩)
      · go_simp
        show K _ _
        refine hK.out _ _ trivial (fun _ => ?_)
        clear hK K
        try simp only [Act.put, List.setIfInBounds_toArray]
        refine wpAnyH_ready (fuel := 3) (rs := [14]) (by kernel_rfl) (by simp) ?_
        refine (AllReadyH.cons (o := ⟨some 29, _, _, _, _, _⟩) rfl (fun K hK => ?_) AllReadyH.nil)
        · go_simp
          refine (ofPower_any x4 _).mono ?_
          rintro e w2 ⟨rfl, rfl⟩
          show K _ _
          refine hK.out _ _ trivial (fun _ => ?_)
          clear hK K
          try simp only [Act.put, List.setIfInBounds_toArray]
          refine wpAnyH_ready (fuel := 2) (rs := [17]) (by kernel_rfl) (by simp) ?_
          refine (AllReadyH.cons (o := ⟨some 32, _, _, _, _, _⟩) rfl (fun K hK => ?_) AllReadyH.nil)
          · go_simp
            refine (ofPower_any x5 _).mono ?_
            rintro e w2 ⟨rfl, rfl⟩
            show K _ _
            refine hK.out _ _ trivial (fun _ => ?_)
            clear hK K
            try simp only [Act.put, List.setIfInBounds_toArray]
            refine wpAnyH_take (fuel := 1) (i := 40) (oi := ⟨some 55, _, _, _, _, _⟩) (v := .agg #[.int .i64 x0.toNat, .int .i64 (pw x1), .int .i64 (pw x2), .int .i64 x3.toNat, .int .i64 (pw x4), .int .i64 (pw x5), .int .i64 x6.toNat, .int .i64 x7.toNat, .int .i64 x8.toNat, .int .i64 x9.toNat, .int .i64 x10.toNat, .int .i64 x11.toNat, .int .i64 x12.toNat]) rfl (by kernel_rfl) (by kernel_rfl) (by kernel_rfl) (fun _ _ _ h => h) (Or.inl ⟨by rfl, ?_⟩) trivial ?_
            · intro w' _
              go_simp
            simp only [Act.put, List.setIfInBounds_toArray]
            refine wpAnyH_ready (fuel := 0) (rs := [42]) (by kernel_rfl) (by simp) ?_
            refine AllReadyH.cons (o := ⟨none, _, _, _, _, _⟩) rfl (fun K hK => ?_) AllReadyH.nil
            go_simp
            show K _ _
            refine hK.out _ _ trivial (fun _ => ?_)
            clear hK K
            refine wpAnyH_done (by kernel_rfl) ?_ _
            refine NoPanic.normal ?_
            rcases Bool.eq_false_or_eq_true (okC ⟨x0.toNat, pw x1, pw x2, x3.toNat, pw x4, pw x5, x6.toNat, x7.toNat, x8.toNat, x9.toNat, x10.toNat, x11.toNat, x12.toNat⟩) with hok | hok
            · have HK := Lib.hid hok
              have h0 := chk_ok ⟨x0.toNat, pw x1, pw x2, x3.toNat, pw x4, pw x5, x6.toNat, x7.toNat, x8.toNat, x9.toNat, x10.toNat, x11.toNat, x12.toNat⟩ hok
              clear hok
              go_wp2_with fail
              refine (check_any ⟨x0.toNat, pw x1, pw x2, x3.toNat, pw x4, pw x5, x6.toNat, x7.toNat, x8.toNat, x9.toNat, x10.toNat, x11.toNat, x12.toNat⟩ _ HF.out).mono ?_
              rintro e w3 ⟨rfl, hb3⟩
              have EZ := Lib.hid (endZ ho1 hb2 hn1 hb3)
              have hc3 := EZ.out.cell
              clear hb3
              go_wp2_with ((with_reducible refine wpList_store_row (o := ⟨none, _, _, _, _, _⟩) rfl 24 (.tmp 2) (.tmp 60) rfl w.heap.size (cL ⟨x0.toNat, pw x1, pw x2, x3.toNat, pw x4, pw x5, x6.toNat, x7.toNat, x8.toNat, x9.toNat, x10.toNat, x11.toNat, x12.toNat⟩) ?sx ?sy 24 ?old ?sg ?si ?so ?s1 ?_); (case sx => rfl); (case sy => rfl); (case sg => exact EZ.out.box); (case si => kernel_rfl); (case so => rfl); (case s1 => kernel_rfl))
              exact sizes_ret rfl rfl EZ.out hb2 hb1 (.inl ⟨HK.out, rfl, rfl, rfl⟩)
            · have HK := Lib.hid hok
              have h0 := chk_no ⟨x0.toNat, pw x1, pw x2, x3.toNat, pw x4, pw x5, x6.toNat, x7.toNat, x8.toNat, x9.toNat, x10.toNat, x11.toNat, x12.toNat⟩ hok
              clear hok
              go_wp2_with fail
              refine (check_any ⟨x0.toNat, pw x1, pw x2, x3.toNat, pw x4, pw x5, x6.toNat, x7.toNat, x8.toNat, x9.toNat, x10.toNat, x11.toNat, x12.toNat⟩ _ HF.out).mono ?_
              rintro e w3 ⟨rfl, hb3⟩
              have EZ := Lib.hid (endZ ho1 hb2 hn1 hb3)
              clear hb3
              go_wp2_with ((with_reducible refine wpList_store_row (o := ⟨none, _, _, _, _, _⟩) rfl 24 (.tmp 2) (.tmp 59) rfl w.heap.size (cL ⟨0, 0, 0, 0, 0, 0, 0, 0, 0, 0, 0, 0, 0⟩) ?sx ?sy 24 ?old ?sg ?si ?so ?s1 ?_); (case sx => rfl); (case sy => rfl); (case sg => exact EZ.out.box); (case si => kernel_rfl); (case so => rfl); (case s1 => kernel_rfl))
              exact sizes_ret rfl rfl EZ.out hb2 hb1 (.inr ⟨HK.out, rfl, rfl⟩)
    · go_simp
      show K _ _
      refine hK.out _ _ trivial (fun _ => ?_)
      clear hK K
      try simp only [Act.put, List.setIfInBounds_toArray]
      refine wpAnyH_ready (fuel := 4) (rs := [8]) (by kernel_rfl) (by simp) ?_
      refine (AllReadyH.cons (o := ⟨some 23, _, _, _, _, _⟩) rfl (fun K hK => ?_) AllReadyH.nil)
      · go_simp
        refine (ofPower_any x2 _).mono ?_
        rintro e w2 ⟨rfl, rfl⟩
        show K _ _
        refine hK.out _ _ trivial (fun _ => ?_)
        clear hK K
        try simp only [Act.put, List.setIfInBounds_toArray]
        refine wpAnyH_ready (fuel := 3) (rs := [14]) (by kernel_rfl) (by simp) ?_
        refine (AllReadyH.cons (o := ⟨some 29, _, _, _, _, _⟩) rfl (fun K hK => ?_) AllReadyH.nil)
        · go_simp
          refine (ofPower_any x4 _).mono ?_
          rintro e w2 ⟨rfl, rfl⟩
          show K _ _
          refine hK.out _ _ trivial (fun _ => ?_)
          clear hK K
          try simp only [Act.put, List.setIfInBounds_toArray]
          refine wpAnyH_ready (fuel := 2) (rs := [17]) (by kernel_rfl) (by simp) ?_
          refine (AllReadyH.cons (o := ⟨some 32, _, _, _, _, _⟩) rfl (fun K hK => ?_) AllReadyH.nil)
          · go_simp
            refine (ofPower_any x5 _).mono ?_
            rintro e w2 ⟨rfl, rfl⟩
            show K _ _
            refine hK.out _ _ trivial (fun _ => ?_)
            clear hK K
            try simp only [Act.put, List.setIfInBounds_toArray]
            refine wpAnyH_take (fuel := 1) (i := 40) (oi := ⟨some 55, _, _, _, _, _⟩) (v := .agg #[.int .i64 x0.toNat, .int .i64 (pw x1), .int .i64 (pw x2), .int .i64 x3.toNat, .int .i64 (pw x4), .int .i64 (pw x5), .int .i64 x6.toNat, .int .i64 x7.toNat, .int .i64 x8.toNat, .int .i64 x9.toNat, .int .i64 x10.toNat, .int .i64 x11.toNat, .int .i64 x12.toNat]) rfl (by kernel_rfl) (by kernel_rfl) (by kernel_rfl) (fun _ _ _ h => h) (Or.inl ⟨by rfl, ?_⟩) trivial ?_
            · intro w' _
              go_simp
            simp only [Act.put, List.setIfInBounds_toArray]
            refine wpAnyH_ready (fuel := 0) (rs := [42]) (by kernel_rfl) (by simp) ?_
            refine AllReadyH.cons (o := ⟨none, _, _, _, _, _⟩) rfl (fun K hK => ?_) AllReadyH.nil
            go_simp
            show K _ _
            refine hK.out _ _ trivial (fun _ => ?_)
            clear hK K
            refine wpAnyH_done (by kernel_rfl) ?_ _
            refine NoPanic.normal ?_
            rcases Bool.eq_false_or_eq_true (okC ⟨x0.toNat, pw x1, pw x2, x3.toNat, pw x4, pw x5, x6.toNat, x7.toNat, x8.toNat, x9.toNat, x10.toNat, x11.toNat, x12.toNat⟩) with hok | hok
            · have HK := Lib.hid hok
              have h0 := chk_ok ⟨x0.toNat, pw x1, pw x2, x3.toNat, pw x4, pw x5, x6.toNat, x7.toNat, x8.toNat, x9.toNat, x10.toNat, x11.toNat, x12.toNat⟩ hok
              clear hok
              go_wp2_with fail
              refine (check_any ⟨x0.toNat, pw x1, pw x2, x3.toNat, pw x4, pw x5, x6.toNat, x7.toNat, x8.toNat, x9.toNat, x10.toNat, x11.toNat, x12.toNat⟩ _ HF.out).mono ?_
              rintro e w3 ⟨rfl, hb3⟩
              have EZ := Lib.hid (endZ ho1 hb2 hn1 hb3)
              have hc3 := EZ.out.cell
              clear hb3
              go_wp2_with ((with_reducible refine wpList_store_row (o := ⟨none, _, _, _, _, _⟩) rfl 24 (.tmp 2) (.tmp 60) rfl w.heap.size (cL ⟨x0.toNat, pw x1, pw x2, x3.toNat, pw x4, pw x5, x6.toNat, x7.toNat, x8.toNat, x9.toNat, x10.toNat, x11.toNat, x12.toNat⟩) ?sx ?sy 24 ?old ?sg ?si ?so ?s1 ?_); (case sx => rfl); (case sy => rfl); (case sg => exact EZ.out.box); (case si => kernel_rfl); (case so => rfl); (case s1 => kernel_rfl))
              exact sizes_ret rfl rfl EZ.out hb2 hb1 (.inl ⟨HK.out, rfl, rfl, rfl⟩)
            · have HK := Lib.hid hok
              have h0 := chk_no ⟨x0.toNat, pw x1, pw x2, x3.toNat, pw x4, pw x5, x6.toNat, x7.toNat, x8.toNat, x9.toNat, x10.toNat, x11.toNat, x12.toNat⟩ hok
              clear hok
              go_wp2_with fail
              refine (check_any ⟨x0.toNat, pw x1, pw x2, x3.toNat, pw x4, pw x5, x6.toNat, x7.toNat, x8.toNat, x9.toNat, x10.toNat, x11.toNat, x12.toNat⟩ _ HF.out).mono ?_
              rintro e w3 ⟨rfl, hb3⟩
              have EZ := Lib.hid (endZ ho1 hb2 hn1 hb3)
              clear hb3
              go_wp2_with ((with_reducible refine wpList_store_row (o := ⟨none, _, _, _, _, _⟩) rfl 24 (.tmp 2) (.tmp 59) rfl w.heap.size (cL ⟨0, 0, 0, 0, 0, 0, 0, 0, 0, 0, 0, 0, 0⟩) ?sx ?sy 24 ?old ?sg ?si ?so ?s1 ?_); (case sx => rfl); (case sy => rfl); (case sg => exact EZ.out.box); (case si => kernel_rfl); (case so => rfl); (case s1 => kernel_rfl))
              exact sizes_ret rfl rfl EZ.out hb2 hb1 (.inr ⟨HK.out, rfl, rfl⟩)
  · go_simp
    show K _ _
    refine hK.out _ _ trivial (fun _ => ?_)
    clear hK K
    try simp only [Act.put, List.setIfInBounds_toArray]
    refine wpAnyH_ready (fuel := 5) (rs := [5]) (by kernel_rfl) (by simp) ?_
    refine (AllReadyH.cons (o := ⟨some 20, _, _, _, _, _⟩) rfl (fun K hK => ?_) AllReadyH.nil)
    · go_simp
      refine (ofPower_any x1 _).mono ?_
      rintro e w2 ⟨rfl, rfl⟩
      show K _ _
      refine hK.out _ _ trivial (fun _ => ?_)
      clear hK K
      try simp only [Act.put, List.setIfInBounds_toArray]
      refine wpAnyH_ready (fuel := 4) (rs := [8]) (by kernel_rfl) (by simp) ?_
      refine (AllReadyH.cons (o := ⟨some 23, _, _, _, _, _⟩) rfl (fun K hK => ?_) AllReadyH.nil)
      · go_simp
        refine (ofPower_any x2 _).mono ?_
        rintro e w2 ⟨rfl, rfl⟩
        show K _ _
        refine hK.out _ _ trivial (fun _ => ?_)
        clear hK K
        try simp only [Act.put, List.setIfInBounds_toArray]
        refine wpAnyH_ready (fuel := 3) (rs := [14]) (by kernel_rfl) (by simp) ?_
        refine (AllReadyH.cons (o := ⟨some 29, _, _, _, _, _⟩) rfl (fun K hK => ?_) AllReadyH.nil)
        · go_simp
          refine (ofPower_any x4 _).mono ?_
          rintro e w2 ⟨rfl, rfl⟩
          show K _ _
          refine hK.out _ _ trivial (fun _ => ?_)
          clear hK K
          try simp only [Act.put, List.setIfInBounds_toArray]
          refine wpAnyH_ready (fuel := 2) (rs := [17]) (by kernel_rfl) (by simp) ?_
          refine (AllReadyH.cons (o := ⟨some 32, _, _, _, _, _⟩) rfl (fun K hK => ?_) AllReadyH.nil)
          · go_simp
            refine (ofPower_any x5 _).mono ?_
            rintro e w2 ⟨rfl, rfl⟩
            show K _ _
            refine hK.out _ _ trivial (fun _ => ?_)
            clear hK K
            try simp only [Act.put, List.setIfInBounds_toArray]
            refine wpAnyH_take (fuel := 1) (i := 40) (oi := ⟨some 55, _, _, _, _, _⟩) (v := .agg #[.int .i64 x0.toNat, .int .i64 (pw x1), .int .i64 (pw x2), .int .i64 x3.toNat, .int .i64 (pw x4), .int .i64 (pw x5), .int .i64 x6.toNat, .int .i64 x7.toNat, .int .i64 x8.toNat, .int .i64 x9.toNat, .int .i64 x10.toNat, .int .i64 x11.toNat, .int .i64 x12.toNat]) rfl (by kernel_rfl) (by kernel_rfl) (by kernel_rfl) (fun _ _ _ h => h) (Or.inl ⟨by rfl, ?_⟩) trivial ?_
            · intro w' _
              go_simp
            simp only [Act.put, List.setIfInBounds_toArray]
            refine wpAnyH_ready (fuel := 0) (rs := [42]) (by kernel_rfl) (by simp) ?_
            refine AllReadyH.cons (o := ⟨none, _, _, _, _, _⟩) rfl (fun K hK => ?_) AllReadyH.nil
            go_simp
            show K _ _
            refine hK.out _ _ trivial (fun _ => ?_)
            clear hK K
            refine wpAnyH_done (by kernel_rfl) ?_ _
            refine NoPanic.normal ?_
            rcases Bool.eq_false_or_eq_true (okC ⟨x0.toNat, pw x1, pw x2, x3.toNat, pw x4, pw x5, x6.toNat, x7.toNat, x8.toNat, x9.toNat, x10.toNat, x11.toNat, x12.toNat⟩) with hok | hok
            · have HK := Lib.hid hok
              have h0 := chk_ok ⟨x0.toNat, pw x1, pw x2, x3.toNat, pw x4, pw x5, x6.toNat, x7.toNat, x8.toNat, x9.toNat, x10.toNat, x11.toNat, x12.toNat⟩ hok
              clear hok
              go_wp2_with fail
              refine (check_any ⟨x0.toNat, pw x1, pw x2, x3.toNat, pw x4, pw x5, x6.toNat, x7.toNat, x8.toNat, x9.toNat, x10.toNat, x11.toNat, x12.toNat⟩ _ HF.out).mono ?_
              rintro e w3 ⟨rfl, hb3⟩
              have EZ := Lib.hid (endZ ho1 hb2 hn1 hb3)
              have hc3 := EZ.out.cell
              clear hb3
              go_wp2_with ((with_reducible refine wpList_store_row (o := ⟨none, _, _, _, _, _⟩) rfl 24 (.tmp 2) (.tmp 60) rfl w.heap.size (cL ⟨x0.toNat, pw x1, pw x2, x3.toNat, pw x4, pw x5, x6.toNat, x7.toNat, x8.toNat, x9.toNat, x10.toNat, x11.toNat, x12.toNat⟩) ?sx ?sy 24 ?old ?sg ?si ?so ?s1 ?_); (case sx => rfl); (case sy => rfl); (case sg => exact EZ.out.box); (case si => kernel_rfl); (case so => rfl); (case s1 => kernel_rfl))
              exact sizes_ret rfl rfl EZ.out hb2 hb1 (.inl ⟨HK.out, rfl, rfl, rfl⟩)
            · have HK := Lib.hid hok
              have h0 := chk_no ⟨x0.toNat, pw x1, pw x2, x3.toNat, pw x4, pw x5, x6.toNat, x7.toNat, x8.toNat, x9.toNat, x10.toNat, x11.toNat, x12.toNat⟩ hok
              clear hok
              go_wp2_with fail
              refine (check_any ⟨x0.toNat, pw x1, pw x2, x3.toNat, pw x4, pw x5, x6.toNat, x7.toNat, x8.toNat, x9.toNat, x10.toNat, x11.toNat, x12.toNat⟩ _ HF.out).mono ?_
              rintro e w3 ⟨rfl, hb3⟩
              have EZ := Lib.hid (endZ ho1 hb2 hn1 hb3)
              clear hb3
              go_wp2_with ((with_reducible refine wpList_store_row (o := ⟨none, _, _, _, _, _⟩) rfl 24 (.tmp 2) (.tmp 59) rfl w.heap.size (cL ⟨0, 0, 0, 0, 0, 0, 0, 0, 0, 0, 0, 0, 0⟩) ?sx ?sy 24 ?old ?sg ?si ?so ?s1 ?_); (case sx => rfl); (case sy => rfl); (case sg => exact EZ.out.box); (case si => kernel_rfl); (case so => rfl); (case s1 => kernel_rfl))
              exact sizes_ret rfl rfl EZ.out hb2 hb1 (.inr ⟨HK.out, rfl, rfl⟩)


end Go.Proofs.YtjnbpohjdgnknaaDoor
