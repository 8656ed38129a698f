/-
  What Take of a net does.
-/
import Derived.Test.YtdggjbaapnkcgaaNtD
import Derived.Deep.RegionHeld3
namespace Go.Proofs.Ytdggjbaapnkcgaa
open Go Go.RowKit

variable {w w' wa w1 : World} {B n : Nat} {c : Cfg} {b : Nat → Nat} {l l' : Nat → List Msg} {v : Nat → Value}

/-- What lay beside it is as it was. -/
theorem NetGave.aside (h : NetP w B n c b l v) (hg : NetGave wa B n c b l' v w1) (k : Nat) (hk : w.heap.size ≤ k) (hk2 : k < wa.heap.size) : w1.heap[k]? = wa.heap[k]? := by
  obtain ⟨u, _, ht, _⟩ := hg
  exact ht.other k hk2 (fun e => by have := (h.foot k e).2; omega)
/-- Behind a call with blocks of the caller's own beside it. -/
theorem NetGave.mono (ha : Below w.heap.size w wa) (hg : NetGave wa B n c b l' v w1) : NetGave w B n c b l' v w1 := by
  obtain ⟨u, h1, ht, hf⟩ := hg
  have hs := ha.size
  refine ⟨u, h1, ⟨ht.os.trans ha.os, ht.tape.trans ha.tape, ht.output.trans ha.output, Nat.le_trans hs ht.size, fun k hk hF => (ht.other k (by omega) hF).trans (ha.block k hk)⟩, fun k hk => ?_⟩
  rcases hf k hk with e | e
  · exact .inl e
  · exact .inr (by omega)
theorem NetGave.row (h : NetP w B n c b l v) (ha : Below w.heap.size w wa) (hg : NetGave wa B n c b l' v w1) (g : Nat) (hg1 : w.heap.size ≤ g) (hg2 : g < wa.heap.size) (cs : Array Value) : NetGave w B n c b l' v (w1.setRow g cs) := by
  obtain ⟨u, h1, ht, hf⟩ := hg
  have hs := ha.size
  have hne : ∀ k, k ≠ g → (w1.setRow g cs).heap[k]? = w1.heap[k]? := fun k hk => setRow_other _ _ _ _ hk
  refine ⟨u, h1.keep fun k hk => hne k fun e => ?_, ⟨ht.os.trans ha.os, ht.tape.trans ha.tape, ht.output.trans ha.output, Nat.le_trans hs (by simpa using ht.size), fun k hk hF => (hne k (by omega)).trans ((ht.other k (by omega) hF).trans (ha.block k hk))⟩, fun k hk => ?_⟩
  · subst e
    rcases hf k hk with e | e
    · have := (h.foot k e).2; omega
    · omega
  · rcases hf k hk with e | e
    · exact .inl e
    · exact .inr (by omega)

/-- Take. -/
theorem ntake_ret {wr : World} {m : Msg} {q : Int} {P : World → Prop} {a : Act} {g : Nat} (hp : a.tmps.getD 6 undef = .pointer (some ⟨g, 0, none⟩)) (hq : a.tmps.getD 7 undef = .int .i64 q) (hd : a.defers = []) (hg : wr.heap[g]? = some (.cells (mga m) 37 (0, 0))) (hb : P wr) :
    bodyPost Try.prog Try.f14 (TakM m q P) Exit.ret a wr :=
  bodyPost_ret (v := .tuple #[.agg (mga m), a.tmps.getD 7 undef]) (results_cell_two Try.results14 _ _ g 37 _ (0, 0) _ hp hg Try.underlying37 rfl (by kernel_rfl)) hd ⟨by rw [hq], hb⟩
set_option maxHeartbeats 1000000 in
theorem ntake_no (p : Value) (k i : Int) (w : World) (hk : k < 0 ∨ 3 ≤ k) :
    Calls Try.prog 14 #[p, .int .i64 k, .int .i64 i] w (TakM m0 5 (Below w.heap.size w)) := by
  have HN := Lib.hid (fun w => has_no p k w hk)
  clear hk
  go_enter Try.func14, Try.ntmps14
  go_wp2_with (first
    | (go_at_call 27; refine (HN.out _).mono ?_; rintro e w1 ⟨rfl, rfl⟩)
    | ((with_reducible refine wpList_store_row (o := ⟨none, _, _, _, _, _⟩) rfl 37 (.tmp 6) (.tmp 12) rfl w.heap.size (mga m0) ?sx ?sy 37 ?old ?sg ?si ?so ?s1 ?_); (case sx => rfl); (case sy => rfl); (case sg => exact heap_alloc_new w _); (case si => kernel_rfl); (case so => rfl); (case s1 => kernel_rfl)))
  exact ntake_ret rfl rfl rfl (setRow_heap _ _ _ _ _ _ (heap_alloc_new w _)) (below_setRow ((Below.refl _ _).alloc (Nat.le_refl _) _) (Nat.le_refl _) _)
set_option maxRecDepth 100000 in
set_option maxHeartbeats 1000000 in
theorem ntake_of (h : NetP w B n c b l v) (j : Nat) (k i : Int) (x : Msg) (q : Int) (P : World → Prop) (hkj : k = j) (hj : j < 3) (R : World → World → Prop)
    (HB : ∀ w1, Below w.heap.size w w1 → Calls Try.prog 33 #[.pointer (some ⟨b j, 0, none⟩), .int .i64 i] w1 (TakM x q (R w1)))
    (HR : ∀ wa w1, Below w.heap.size w wa → R wa w1 → (∀ g, w.heap.size ≤ g → g < wa.heap.size → w1.heap[g]? = wa.heap[g]? ∧ ∀ cs, P (w1.setRow g cs))) :
    Calls Try.prog 14 #[.pointer (some ⟨n, 0, none⟩), .int .i64 k, .int .i64 i] w (TakM x q P) := by
  have hal : Below w.heap.size w (w.alloc (.cells (mga m0) 37)) := (Below.refl _ w).alloc (Nat.le_refl _) _
  have HA := Lib.hid (HB _ hal)
  have HRR := Lib.hid (fun w1 (hr : R (w.alloc (.cells (mga m0) 37)) w1) => HR _ w1 hal hr w.heap.size (Nat.le_refl _) (by simp))
  have HN := Lib.hid (fun w => has_yes (.pointer (some ⟨n, 0, none⟩)) k w (by omega) (by omega))
  have hbk := (hal.block n h.lt).trans h.blk
  have c0 := blk_cell hbk 13
  have c1 := blk_cell hbk 14
  have c2 := blk_cell hbk 15
  simp at c0 c1 c2
  clear h hal hbk HB HR
  rcases (show j = 0 ∨ j = 1 ∨ j = 2 by omega) with rfl | rfl | rfl
  · obtain rfl : k = 0 := by simpa using hkj
    clear hkj hj
    go_enter Try.func14, Try.ntmps14
    go_wp2_with (first
      | (go_at_call 27; refine (HN.out _).mono ?_; rintro e w1 ⟨rfl, rfl⟩)
      | (go_at_call 33; refine HA.out.mono ?_; rintro e w1 ⟨rfl, hb1⟩; have h1 := (HRR.out w1 hb1).1.trans (heap_alloc_new w _); have HP := Lib.hid ((HRR.out w1 hb1).2 (mga x)); clear hb1)
      | ((with_reducible refine wpList_store_row (o := ⟨none, _, _, _, _, _⟩) rfl 37 (.tmp 6) (.tmp 21) rfl w.heap.size (mga x) ?sx ?sy 37 (mga m0) ?sg ?si ?so ?s1 ?_); (case sx => rfl); (case sy => rfl); (case sg => exact h1); (case si => kernel_rfl); (case so => rfl); (case s1 => kernel_rfl)))
    exact ntake_ret rfl rfl rfl (setRow_heap _ _ _ _ _ _ h1) HP.out
  · obtain rfl : k = 1 := by simpa using hkj
    clear hkj hj
    go_enter Try.func14, Try.ntmps14
    go_wp2_with (first
      | (go_at_call 27; refine (HN.out _).mono ?_; rintro e w1 ⟨rfl, rfl⟩)
      | (go_at_call 33; refine HA.out.mono ?_; rintro e w1 ⟨rfl, hb1⟩; have h1 := (HRR.out w1 hb1).1.trans (heap_alloc_new w _); have HP := Lib.hid ((HRR.out w1 hb1).2 (mga x)); clear hb1)
      | ((with_reducible refine wpList_store_row (o := ⟨none, _, _, _, _, _⟩) rfl 37 (.tmp 6) (.tmp 21) rfl w.heap.size (mga x) ?sx ?sy 37 (mga m0) ?sg ?si ?so ?s1 ?_); (case sx => rfl); (case sy => rfl); (case sg => exact h1); (case si => kernel_rfl); (case so => rfl); (case s1 => kernel_rfl)))
    exact ntake_ret rfl rfl rfl (setRow_heap _ _ _ _ _ _ h1) HP.out
  · obtain rfl : k = 2 := by simpa using hkj
    clear hkj hj
    go_enter Try.func14, Try.ntmps14
    go_wp2_with (first
      | (go_at_call 27; refine (HN.out _).mono ?_; rintro e w1 ⟨rfl, rfl⟩)
      | (go_at_call 33; refine HA.out.mono ?_; rintro e w1 ⟨rfl, hb1⟩; have h1 := (HRR.out w1 hb1).1.trans (heap_alloc_new w _); have HP := Lib.hid ((HRR.out w1 hb1).2 (mga x)); clear hb1)
      | ((with_reducible refine wpList_store_row (o := ⟨none, _, _, _, _, _⟩) rfl 37 (.tmp 6) (.tmp 21) rfl w.heap.size (mga x) ?sx ?sy 37 (mga m0) ?sg ?si ?so ?s1 ?_); (case sx => rfl); (case sy => rfl); (case sg => exact h1); (case si => kernel_rfl); (case so => rfl); (case s1 => kernel_rfl)))
    exact ntake_ret rfl rfl rfl (setRow_heap _ _ _ _ _ _ h1) HP.out
theorem ntake_none (h : NetP w B n c b l v) (j : Nat) (k i : Int) (hkj : k = j) (hj : j < 3) (hn : i < 0 ∨ ((l j).length : Int) ≤ i) :
    Calls Try.prog 14 #[.pointer (some ⟨n, 0, none⟩), .int .i64 k, .int .i64 i] w (TakM m0 5 (Below w.heap.size w)) :=
  ntake_of h j k i m0 5 _ hkj hj (fun wa => Below wa.heap.size wa) (fun w1 hb => takeM_no ((h.below hb).bag j hj) i (by have := h.len64 j hj; omega) hn)
    fun wa w1 ha hr g hg hg2 => ⟨hr.block g hg2, fun cs => below_setRow (bstep ha hr) hg cs⟩
theorem ntake_yes (h : NetP w B n c b l v) (j : Nat) (k : Int) (i : Nat) (x : Msg) (hkj : k = j) (hj : j < 3) (hx : (l j)[i]? = some x) :
    Calls Try.prog 14 #[.pointer (some ⟨n, 0, none⟩), .int .i64 k, .int .i64 i] w (TakM x 0 (NetGave w B n c b (upd l j ((l j).eraseIdx i)) v)) :=
  ntake_of h j k i x 0 _ hkj hj (fun wa w1 => NetGave wa B n c b (upd l j ((l j).eraseIdx i)) v w1)
    (fun w1 hb => (takeM_yes ((h.below hb).bag j hj) i x (by have := h.len64 j hj; omega) hx).mono fun _ _ ⟨he, hg⟩ => ⟨he, (h.below hb).turn j hj (by have := h.len j hj; rw [List.length_eraseIdx_of_lt (List.getElem?_eq_some_iff.1 hx).1]; omega) hg⟩)
    fun wa w1 ha hr g hg hg2 => ⟨hr.aside h g hg hg2, fun cs => hr.row h ha g hg hg2 cs⟩

end Go.Proofs.Ytdggjbaapnkcgaa
