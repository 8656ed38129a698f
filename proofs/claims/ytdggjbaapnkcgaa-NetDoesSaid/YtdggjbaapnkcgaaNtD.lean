/-
  What has, Left, At and List of a net do.
-/
import Derived.Test.YtdggjbaapnkcgaaNtC
namespace Go.Proofs.Ytdggjbaapnkcgaa
open Go Go.RowKit

theorem has_yes (p : Value) (k : Int) (w : World) (h0 : 0 ≤ k) (h1 : k < 3) :
    Calls Try.prog 27 #[p, .int .i64 k] w fun e w' => e = .returned (.bool true) ∧ w = w' := by
  go_enter Try.func27, Try.ntmps27
  go_wp2
  go_ret
  exact ⟨rfl, rfl⟩
theorem has_no (p : Value) (k : Int) (w : World) (h : k < 0 ∨ 3 ≤ k) :
    Calls Try.prog 27 #[p, .int .i64 k] w fun e w' => e = .returned (.bool false) ∧ w = w' := by
  rcases h with h | h
  · go_enter Try.func27, Try.ntmps27
    go_wp2
    go_ret
    exact ⟨rfl, rfl⟩
  · have h0 : 0 ≤ k := by omega
    go_enter Try.func27, Try.ntmps27
    go_wp2
    go_ret
    exact ⟨ret_bool (by simp; omega), rfl⟩

variable {w w' : World} {B n : Nat} {c : Cfg} {b : Nat → Nat} {l : Nat → List Msg} {v : Nat → Value}

/-- Left. -/
theorem nleft_no (p : Value) (k : Int) (w : World) (hk : k < 0 ∨ 3 ≤ k) :
    Calls Try.prog 10 #[p, .int .i64 k] w fun e w' => e = .returned (.int .i64 0) ∧ Below w.heap.size w w' := by
  have HN := Lib.hid (has_no p k w hk)
  clear hk
  go_enter Try.func10, Try.ntmps10
  go_wp2_with (go_at_call 27; refine HN.out.mono ?_; rintro e w1 ⟨rfl, rfl⟩)
  go_ret
  exact ⟨rfl, Below.refl _ _⟩
set_option maxRecDepth 100000 in
theorem nleft_yes (h : NetP w B n c b l v) (j : Nat) (k : Int) (hkj : k = j) (hj : j < 3) :
    Calls Try.prog 10 #[.pointer (some ⟨n, 0, none⟩), .int .i64 k] w fun e w' => e = .returned (.int .i64 (room c j - (l j).length)) ∧ Below w.heap.size w w' := by
  have hr := room_le h.ok j hj
  have HL := Lib.hid (leftM_any (h.bag j hj) (by omega) (by omega) (by have := h.len64 j hj; omega))
  have HN := Lib.hid (has_yes (.pointer (some ⟨n, 0, none⟩)) k w (by omega) (by omega))
  have c0 := blk_cell h.blk 13
  have c1 := blk_cell h.blk 14
  have c2 := blk_cell h.blk 15
  simp at c0 c1 c2
  clear h hr
  rcases (show j = 0 ∨ j = 1 ∨ j = 2 by omega) with rfl | rfl | rfl
  · obtain rfl : k = 0 := by simpa using hkj
    clear hkj hj
    go_enter Try.func10, Try.ntmps10
    go_wp2_with (first
      | (go_at_call 27; refine HN.out.mono ?_; rintro e w1 ⟨rfl, rfl⟩)
      | (go_at_call 29; refine HL.out.mono ?_; rintro e w1 ⟨rfl, q, rfl⟩))
    go_ret
    exact ⟨rfl, below_drewN (Below.refl _ _) _⟩
  · obtain rfl : k = 1 := by simpa using hkj
    clear hkj hj
    go_enter Try.func10, Try.ntmps10
    go_wp2_with (first
      | (go_at_call 27; refine HN.out.mono ?_; rintro e w1 ⟨rfl, rfl⟩)
      | (go_at_call 29; refine HL.out.mono ?_; rintro e w1 ⟨rfl, q, rfl⟩))
    go_ret
    exact ⟨rfl, below_drewN (Below.refl _ _) _⟩
  · obtain rfl : k = 2 := by simpa using hkj
    clear hkj hj
    go_enter Try.func10, Try.ntmps10
    go_wp2_with (first
      | (go_at_call 27; refine HN.out.mono ?_; rintro e w1 ⟨rfl, rfl⟩)
      | (go_at_call 29; refine HL.out.mono ?_; rintro e w1 ⟨rfl, q, rfl⟩))
    go_ret
    exact ⟨rfl, below_drewN (Below.refl _ _) _⟩

/-- List. -/
theorem nlist_no (p : Value) (k : Int) (w : World) (hk : k < 0 ∨ 3 ≤ k) :
    Calls Try.prog 17 #[p, .int .i64 k] w (RowGave 37 15 mg [] w) := by
  have HN := Lib.hid (has_no p k w hk)
  clear hk
  go_enter Try.func17, Try.ntmps17
  go_wp2_with (go_at_call 27; refine HN.out.mono ?_; rintro e w1 ⟨rfl, rfl⟩)
  go_ret
  exact ⟨_, rfl, World.ownsRow_nil _ _ _ _, Below.refl _ _⟩
set_option maxRecDepth 100000 in
theorem nlist_yes (h : NetP w B n c b l v) (j : Nat) (k : Int) (hkj : k = j) (hj : j < 3) :
    Calls Try.prog 17 #[.pointer (some ⟨n, 0, none⟩), .int .i64 k] w (RowGave 37 15 mg (l j) w) := by
  have HL := Lib.hid (listM_any (h.bag j hj) (by have := h.len64 j hj; omega))
  have HN := Lib.hid (has_yes (.pointer (some ⟨n, 0, none⟩)) k w (by omega) (by omega))
  have c0 := blk_cell h.blk 13
  have c1 := blk_cell h.blk 14
  have c2 := blk_cell h.blk 15
  simp at c0 c1 c2
  clear h
  rcases (show j = 0 ∨ j = 1 ∨ j = 2 by omega) with rfl | rfl | rfl
  · obtain rfl : k = 0 := by simpa using hkj
    clear hkj hj
    go_enter Try.func17, Try.ntmps17
    go_wp2_with (first
      | (go_at_call 27; refine HN.out.mono ?_; rintro e w1 ⟨rfl, rfl⟩)
      | (go_at_call 34; refine HL.out.mono ?_; rintro e w1 ⟨u, rfl, hown, hb⟩))
    go_ret
    exact ⟨u, rfl, hown, hb⟩
  · obtain rfl : k = 1 := by simpa using hkj
    clear hkj hj
    go_enter Try.func17, Try.ntmps17
    go_wp2_with (first
      | (go_at_call 27; refine HN.out.mono ?_; rintro e w1 ⟨rfl, rfl⟩)
      | (go_at_call 34; refine HL.out.mono ?_; rintro e w1 ⟨u, rfl, hown, hb⟩))
    go_ret
    exact ⟨u, rfl, hown, hb⟩
  · obtain rfl : k = 2 := by simpa using hkj
    clear hkj hj
    go_enter Try.func17, Try.ntmps17
    go_wp2_with (first
      | (go_at_call 27; refine HN.out.mono ?_; rintro e w1 ⟨rfl, rfl⟩)
      | (go_at_call 34; refine HL.out.mono ?_; rintro e w1 ⟨u, rfl, hown, hb⟩))
    go_ret
    exact ⟨u, rfl, hown, hb⟩

/-- At. -/
theorem nat_ret {w wr : World} {m : Msg} {q : Value} {a : Act} {g : Nat} (hp : a.tmps.getD 6 undef = .pointer (some ⟨g, 0, none⟩)) (hq : a.tmps.getD 7 undef = q) (hd : a.defers = []) (hg : wr.heap[g]? = some (.cells (mga m) 37 (0, 0))) (hb : Below w.heap.size w wr) :
    bodyPost Try.prog Try.f8 (RetM w m q) Exit.ret a wr :=
  bodyPost_ret (v := .tuple #[.agg (mga m), a.tmps.getD 7 undef]) (results_cell_two Try.results8 _ _ g 37 _ (0, 0) _ hp hg Try.underlying37 rfl (by kernel_rfl)) hd ⟨by rw [hq], hb⟩
set_option maxHeartbeats 1000000 in
theorem nat_no (p : Value) (k i : Int) (w : World) (hk : k < 0 ∨ 3 ≤ k) :
    Calls Try.prog 8 #[p, .int .i64 k, .int .i64 i] w (RetM w m0 (.bool false)) := by
  have HN := Lib.hid (fun w => has_no p k w hk)
  clear hk
  go_enter Try.func8, Try.ntmps8
  go_wp2_with (first
    | (go_at_call 27; refine (HN.out _).mono ?_; rintro e w1 ⟨rfl, rfl⟩)
    | ((with_reducible refine wpList_store_row (o := ⟨none, _, _, _, _, _⟩) rfl 37 (.tmp 6) (.tmp 12) rfl w.heap.size (mga m0) ?sx ?sy 37 ?old ?sg ?si ?so ?s1 ?_); (case sx => rfl); (case sy => rfl); (case sg => exact heap_alloc_new w _); (case si => kernel_rfl); (case so => rfl); (case s1 => kernel_rfl)))
  exact nat_ret rfl rfl rfl (setRow_heap _ _ _ _ _ _ (heap_alloc_new w _)) (below_setRow ((Below.refl _ _).alloc (Nat.le_refl _) _) (Nat.le_refl _) _)
set_option maxRecDepth 100000 in
set_option maxHeartbeats 1000000 in
theorem nat_of (h : NetP w B n c b l v) (j : Nat) (k i : Int) (x : Msg) (q : Bool) (hkj : k = j) (hj : j < 3)
    (HB : ∀ w1, Below w.heap.size w w1 → Calls Try.prog 28 #[.pointer (some ⟨b j, 0, none⟩), .int .i64 i] w1 (RetM w1 x (.bool q))) :
    Calls Try.prog 8 #[.pointer (some ⟨n, 0, none⟩), .int .i64 k, .int .i64 i] w (RetM w x (.bool q)) := by
  have hal : Below w.heap.size w (w.alloc (.cells (mga m0) 37)) := (Below.refl _ w).alloc (Nat.le_refl _) _
  have HA := Lib.hid (HB _ hal)
  have HAL := Lib.hid hal
  have HN := Lib.hid (fun w => has_yes (.pointer (some ⟨n, 0, none⟩)) k w (by omega) (by omega))
  have hbk := (hal.block n h.lt).trans h.blk
  have c0 := blk_cell hbk 13
  have c1 := blk_cell hbk 14
  have c2 := blk_cell hbk 15
  simp at c0 c1 c2
  clear h hal hbk HB
  rcases (show j = 0 ∨ j = 1 ∨ j = 2 by omega) with rfl | rfl | rfl
  · obtain rfl : k = 0 := by simpa using hkj
    clear hkj hj
    go_enter Try.func8, Try.ntmps8
    go_wp2_with (first
      | (go_at_call 27; refine (HN.out _).mono ?_; rintro e w1 ⟨rfl, rfl⟩)
      | (go_at_call 28; refine HA.out.mono ?_; rintro e w1 ⟨rfl, hb1⟩; have h1 := (hb1.block w.heap.size (by simp)).trans (heap_alloc_new w _); have HB1 := Lib.hid (bstep HAL.out hb1); clear hb1)
      | ((with_reducible refine wpList_store_row (o := ⟨none, _, _, _, _, _⟩) rfl 37 (.tmp 6) (.tmp 21) rfl w.heap.size (mga x) ?sx ?sy 37 (mga m0) ?sg ?si ?so ?s1 ?_); (case sx => rfl); (case sy => rfl); (case sg => exact h1); (case si => kernel_rfl); (case so => rfl); (case s1 => kernel_rfl)))
    exact nat_ret rfl rfl rfl (setRow_heap _ _ _ _ _ _ h1) (below_setRow HB1.out (Nat.le_refl _) _)
  · obtain rfl : k = 1 := by simpa using hkj
    clear hkj hj
    go_enter Try.func8, Try.ntmps8
    go_wp2_with (first
      | (go_at_call 27; refine (HN.out _).mono ?_; rintro e w1 ⟨rfl, rfl⟩)
      | (go_at_call 28; refine HA.out.mono ?_; rintro e w1 ⟨rfl, hb1⟩; have h1 := (hb1.block w.heap.size (by simp)).trans (heap_alloc_new w _); have HB1 := Lib.hid (bstep HAL.out hb1); clear hb1)
      | ((with_reducible refine wpList_store_row (o := ⟨none, _, _, _, _, _⟩) rfl 37 (.tmp 6) (.tmp 21) rfl w.heap.size (mga x) ?sx ?sy 37 (mga m0) ?sg ?si ?so ?s1 ?_); (case sx => rfl); (case sy => rfl); (case sg => exact h1); (case si => kernel_rfl); (case so => rfl); (case s1 => kernel_rfl)))
    exact nat_ret rfl rfl rfl (setRow_heap _ _ _ _ _ _ h1) (below_setRow HB1.out (Nat.le_refl _) _)
  · obtain rfl : k = 2 := by simpa using hkj
    clear hkj hj
    go_enter Try.func8, Try.ntmps8
    go_wp2_with (first
      | (go_at_call 27; refine (HN.out _).mono ?_; rintro e w1 ⟨rfl, rfl⟩)
      | (go_at_call 28; refine HA.out.mono ?_; rintro e w1 ⟨rfl, hb1⟩; have h1 := (hb1.block w.heap.size (by simp)).trans (heap_alloc_new w _); have HB1 := Lib.hid (bstep HAL.out hb1); clear hb1)
      | ((with_reducible refine wpList_store_row (o := ⟨none, _, _, _, _, _⟩) rfl 37 (.tmp 6) (.tmp 21) rfl w.heap.size (mga x) ?sx ?sy 37 (mga m0) ?sg ?si ?so ?s1 ?_); (case sx => rfl); (case sy => rfl); (case sg => exact h1); (case si => kernel_rfl); (case so => rfl); (case s1 => kernel_rfl)))
    exact nat_ret rfl rfl rfl (setRow_heap _ _ _ _ _ _ h1) (below_setRow HB1.out (Nat.le_refl _) _)
theorem nat_none (h : NetP w B n c b l v) (j : Nat) (k i : Int) (hkj : k = j) (hj : j < 3) (hn : i < 0 ∨ ((l j).length : Int) ≤ i) :
    Calls Try.prog 8 #[.pointer (some ⟨n, 0, none⟩), .int .i64 k, .int .i64 i] w (RetM w m0 (.bool false)) :=
  nat_of h j k i m0 false hkj hj fun w1 hb => atM_no ((h.below hb).bag j hj) i (by have := h.len64 j hj; omega) hn
theorem nat_yes (h : NetP w B n c b l v) (j : Nat) (k : Int) (i : Nat) (x : Msg) (hkj : k = j) (hj : j < 3) (hx : (l j)[i]? = some x) :
    Calls Try.prog 8 #[.pointer (some ⟨n, 0, none⟩), .int .i64 k, .int .i64 i] w (RetM w x (.bool true)) :=
  nat_of h j k i x true hkj hj fun w1 hb => atM_yes ((h.below hb).bag j hj) i x (by have := h.len64 j hj; omega) hx

end Go.Proofs.Ytdggjbaapnkcgaa
