/-
  The document's New, Has, Ready, Next.
-/
import Derived.Test.YtnpbbkiojoafbaaQuI
namespace Go.Proofs.Ytnpbbkiojoafbaa
open Go Go.RowKit

theorem refNew_no (room : Int) (w : World) (h : room < 1 ∨ 16 < room) :
    Calls Try.prog 9 #[.int .i64 room] w fun e w' => e = .returned (.tuple #[.pointer none, .int .i64 1]) ∧ w = w' := by
  rcases h with h | h
  · go_enter Try.func9, Try.ntmps9
    go_wp2
    go_ret2
    exact ⟨rfl, rfl⟩
  · have h1 : ¬ room < 1 := by omega
    go_enter Try.func9, Try.ntmps9
    go_wp2
    go_ret2
    exact ⟨rfl, rfl⟩
theorem refNew_yes (room : Int) (w : World) (h : 1 ≤ room) (h2 : room ≤ 16) :
    Calls Try.prog 9 #[.int .i64 room] w fun e w' => e = .returned (.tuple #[.pointer (some ⟨w.heap.size, 0, none⟩), .int .i64 0]) ∧ w.alloc (.cells #[.int .i64 room, .slice none 0 0] 53) = w' := by
  go_enter Try.func9, Try.ntmps9
  go_wp2
  go_ret2
  exact ⟨rfl, rfl⟩

/-- Is there a place? -/
def hasP (l : List En) (a : Int) : Bool := decide (0 ≤ a ∧ a < (l.length : Int))
theorem has_out {l : List Ep} {a : Int} (h : a < 0 ∨ (l.length : Int) ≤ a) : hasP (l.map Ep.pl) a = false := by unfold hasP; simp; omega
theorem has_in {l : List Ep} {i : Nat} (h : i < l.length) : hasP (l.map Ep.pl) (i : Int) = true := by unfold hasP; simp; omega
theorem refHas_out {w : World} {B b : Nat} {room : Int} {l : List Ep} {v : Value} (h : BgD w B b room l v) (at_ : Int) (hn : at_ < 0 ∨ (l.length : Int) ≤ at_) :
    Calls Try.prog 23 #[.pointer (some ⟨b, 0, none⟩), .int .i64 at_] w fun e w' => e = .returned (.bool false) ∧ w = w' := by
  obtain ⟨p, cap, rfl, -⟩ := h.form
  have c1 := blk_cell h.blk 1
  simp at c1
  clear h
  by_cases h0 : at_ < 0
  · have h1 : ¬ 0 ≤ at_ := by omega
    clear hn
    go_enter Try.func23, Try.ntmps23
    go_wp2
    go_ret
    exact ⟨rfl, rfl⟩
  · have h1 : 0 ≤ at_ := by omega
    have h2 : ¬ at_ < (l.length : Int) := by omega
    clear hn
    go_enter Try.func23, Try.ntmps23
    go_wp2
    go_ret
    exact ⟨rfl, rfl⟩
theorem refHas_at {w : World} {B b : Nat} {room : Int} {l : List Ep} {v : Value} (h : BgD w B b room l v) (i : Nat) (hi : i < l.length) :
    Calls Try.prog 23 #[.pointer (some ⟨b, 0, none⟩), .int .i64 i] w fun e w' => e = .returned (.bool true) ∧ w = w' := by
  obtain ⟨p, cap, rfl, -⟩ := h.form
  have c1 := blk_cell h.blk 1
  simp at c1
  clear h
  have d1 : decide ((i : Int) < (l.length : Int)) = true := by simp; omega
  go_enter Try.func23, Try.ntmps23
  go_wp2
  go_ret
  exact ⟨rfl, rfl⟩
/-- The document's Has. -/
theorem refHas_any {w : World} {B b : Nat} {room : Int} {l : List Ep} {v : Value} (h : BgD w B b room l v) (at_ : Int) :
    Calls Try.prog 23 #[.pointer (some ⟨b, 0, none⟩), .int .i64 at_] w fun e w' => e = .returned (.bool (hasP (l.map Ep.pl) at_)) ∧ w = w' := by
  rcases at_cases l at_ with ho | ⟨i, x, rfl, hx⟩
  · rw [has_out ho]
    exact refHas_out h at_ ho
  · have hi := (List.getElem?_eq_some_iff.1 hx).1
    rw [has_in hi]
    exact refHas_at h i hi

/-! Ready. -/
theorem refReady_out {w : World} {B b : Nat} {room : Int} {l : List Ep} {v : Value} (h : BgD w B b room l v) (at_ : Int) (hn : at_ < 0 ∨ (l.length : Int) ≤ at_) :
    Calls Try.prog 21 #[.pointer (some ⟨b, 0, none⟩), .int .i64 at_] w fun e w' => e = .returned (.bool false) ∧ Below w.heap.size w w' := by
  have HP := Lib.hid (refHas_out h at_ hn)
  clear h hn
  go_enter Try.func21, Try.ntmps21
  go_wp2_with fail
  refine HP.out.mono ?_
  rintro e w1 ⟨rfl, rfl⟩
  go_wp2
  go_ret
  exact ⟨rfl, Below.refl _ _⟩
theorem refReady_on {w : World} {B b : Nat} {room : Int} {l : List Ep} {v : Value} (h : BgD w B b room l v) (i : Nat) (x : Ep) (hx : l[i]? = some x) (hs : x.st = true) :
    Calls Try.prog 21 #[.pointer (some ⟨b, 0, none⟩), .int .i64 i] w fun e w' => e = .returned (.bool false) ∧ Below w.heap.size w w' := by
  have hi := (List.getElem?_eq_some_iff.1 hx).1
  obtain ⟨g, cap, rfl, hbg, hgl, hBg, hr, hfz, _, _⟩ := h.one hx
  have HP := Lib.hid (refHas_at h i hi)
  have c1 := blk_cell h.blk 1
  have c15 : w.cell? ⟨g, i * 17 + 15, none⟩ = some (.bool x.st) := hr 15 _ rfl
  rw [hs] at c15
  simp at c1
  clear h hx hr hfz hs
  go_enter Try.func21, Try.ntmps21
  go_wp2_with fail
  refine HP.out.mono ?_
  rintro e w1 ⟨rfl, rfl⟩
  go_wp2
  go_ret
  exact ⟨rfl, Below.refl _ _⟩
theorem first_no {l : List En} {i k : Nat} {x : En} {ln : Int} (hk : k < i) (hx : l[k]? = some x) (he : isL ln x = true) : (l.findIdx? (isL ln) == some i) = false := by
  rw [beq_eq_false_iff_ne]
  intro e
  obtain ⟨h1, h2, h3⟩ := List.findIdx?_eq_some_iff_getElem.1 e
  have := h3 k hk
  obtain ⟨hl, rfl⟩ := List.getElem?_eq_some_iff.1 hx
  simp [he] at this
theorem first_yes {l : List En} {i : Nat} {x : En} (hx : l[i]? = some x) (hj : ∀ (j : Nat) (y : En), j < i → l[j]? = some y → isL x.m.ln y = false) : (l.findIdx? (isL x.m.ln) == some i) = true := by
  rw [beq_iff_eq]
  obtain ⟨hl, rfl⟩ := List.getElem?_eq_some_iff.1 hx
  exact List.findIdx?_eq_some_iff_getElem.2 ⟨hl, by simp [isL], fun j hj' => by simp [hj j _ hj' (List.getElem?_eq_getElem (by omega))]⟩
set_option maxHeartbeats 1000000 in
theorem refReady_off {w : World} {B b : Nat} {room : Int} {l : List Ep} {v : Value} (h : BgD w B b room l v) (i : Nat) (x : Ep) (hl : l.length ≤ 5000) (hx : l[i]? = some x) (hs : x.st = false) :
    Calls Try.prog 21 #[.pointer (some ⟨b, 0, none⟩), .int .i64 i] w fun e w' => e = .returned (.bool ((l.map Ep.pl).findIdx? (isL x.m.ln) == some i)) ∧ Below w.heap.size w w' := by
  have hi := (List.getElem?_eq_some_iff.1 hx).1
  obtain ⟨g, cap, rfl, hbg, hgl, hBg, hr, hfz, _, _⟩ := h.one hx
  have HP := Lib.hid (refHas_at h i hi)
  have HI : Hid (∀ (wr : World), Below w.heap.size w wr → ∀ (k : Nat) (y : Ep), l[k]? = some y → wr.cell? ⟨g, k * 17 + 1, none⟩ = some (.int .i64 y.m.ln)) := Lib.hid (fun wr hb k y hy => by
    obtain ⟨g', cap', e, _, hgl', _, hr', _⟩ := h.one hy
    cases e
    exact (hb.cell (p := ⟨g, k * 17 + 1, none⟩) hgl').trans (hr' 1 _ rfl))
  have c1 := blk_cell h.blk 1
  have c15 : w.cell? ⟨g, i * 17 + 15, none⟩ = some (.bool x.st) := hr 15 _ rfl
  rw [hs] at c15
  simp at c1
  have HC1 : Hid (∀ (wr : World), Below w.heap.size w wr → wr.cell? ⟨b, 1, none⟩ = some (.slice (some ⟨g, 0, none⟩) l.length cap)) := Lib.hid (fun wr hb => (hb.cell (p := ⟨b, 1, none⟩) h.lt).trans c1)
  have HX := Lib.hid hx
  clear h hx hr hfz hs
  go_enter Try.func21, Try.ntmps21
  go_wp2_with fail
  refine HP.out.mono ?_
  rintro e w1 ⟨rfl, rfl⟩
  clear HP
  go_wp2
  go_loopw [5] (fun t wr => ∃ k : Nat, t = .int .i64 k ∧ k ≤ i ∧ Hid (∀ (j : Nat) (y : En), j < k → (l.map Ep.pl)[j]? = some y → isL x.m.ln y = false) ∧ Below w.heap.size w wr) (fun t _ => i - (intOf t).toNat)
  case atStart => exact ⟨0, rfl, Nat.zero_le _, Lib.hid (fun j y hj => by omega), Below.refl _ _⟩
  case round =>
    obtain ⟨k, rfl, hk, HJ, hb⟩ := hrel
    have HB := Lib.hid hb
    have c1 := HC1.out wr hb
    have cx := HI.out wr hb i x HX.out
    clear hb c15
    by_cases hlt : k < i
    · obtain ⟨y, hy⟩ : ∃ y, l[k]? = some y := ⟨_, List.getElem?_eq_getElem (by omega)⟩
      have cy := HI.out wr HB.out k y hy
      have hk1 : k < l.length := by omega
      have HY := Lib.hid (pl_at hy)
      clear hy
      rcases Bool.eq_false_or_eq_true (y.m.ln == x.m.ln) with he | he
      · have HT : Hid (((l.map Ep.pl).findIdx? (isL x.m.ln) == some i) = false) := Lib.hid (first_no hlt HY.out he)
        go_wp2
        go_quiet (fail)
        go_wp2
        go_ret
        exact ⟨ret_bool HT.out.symm, below_drewN HB.out _⟩
      · have HK : Hid (∀ (j : Nat) (z : En), j < k + 1 → (l.map Ep.pl)[j]? = some z → isL x.m.ln z = false) := Lib.hid (fun j z hj hz => by
          by_cases e : j = k
          · subst e
            obtain rfl : y.pl = z := Option.some.inj (HY.out.symm.trans hz)
            exact he
          · exact HJ.out j z (by omega) hz)
        go_wp2
        go_quiet (fail)
        go_wp2
        go_roundw
        case rel => exact ⟨k + 1, by go_num, by omega, HK, below_drewN HB.out _⟩
        case measure => simp [intOf]; omega
    · have hki : k = i := by omega
      have HT : Hid (((l.map Ep.pl).findIdx? (isL x.m.ln) == some i) = true) := Lib.hid (first_yes (x := x.pl) (pl_at HX.out) (fun j y hj hy => HJ.out j y (by omega) hy))
      clear hki
      go_wp2
      go_ret
      exact ⟨ret_bool HT.out.symm, HB.out⟩
/-- The document's Ready. -/
theorem refReady_any {w : World} {B b : Nat} {room : Int} {l : List Ep} {v : Value} (h : BgD w B b room l v) (at_ : Int) (hl : l.length ≤ 5000) :
    Calls Try.prog 21 #[.pointer (some ⟨b, 0, none⟩), .int .i64 at_] w fun e w' => e = .returned (.bool (rdy (l.map Ep.pl) at_)) ∧ Below w.heap.size w w' := by
  rcases at_cases l at_ with ho | ⟨i, x, rfl, hx⟩
  · rw [rdy_out (by rwa [pl_len])]
    exact refReady_out h at_ ho
  · rw [rdy_at (pl_at hx)]
    rcases Bool.eq_false_or_eq_true x.st with hs | hs
    · have e : (!x.pl.st) = false := by show (!x.st) = false; rw [hs]; rfl
      rw [e, Bool.false_and]
      exact refReady_on h i x hx hs
    · have e : (!x.pl.st) = true := by show (!x.st) = true; rw [hs]; rfl
      rw [e, Bool.true_and]
      exact refReady_off h i x hl hx hs

/-! Next. -/
theorem refNext_ret {wr : World} {m : Msg} {q : Bool} {P : World → Prop} {a : Act} {g : Nat} (hp : a.tmps.getD 4 undef = .pointer (some ⟨g, 0, none⟩)) (hq : a.tmps.getD 5 undef = .bool q) (hd : a.defers = []) (hg : wr.heap[g]? = some (.cells (mcells m) 35 (0, 0))) (hb : P wr) :
    bodyPost Try.prog Try.f13 (RetM m q P) Exit.ret a wr :=
  bodyPost_ret (v := .tuple #[.agg (mcells m), a.tmps.getD 5 undef]) (results_cell_two Try.results13 _ _ g 35 _ (0, 0) _ hp hg Try.underlying35 rfl (by kernel_rfl)) hd ⟨by rw [hq], hb⟩
set_option maxHeartbeats 1000000 in
theorem refNext_out {w : World} {B b : Nat} {room : Int} {l : List Ep} {v : Value} (h : BgD w B b room l v) (at_ : Int) (hn : at_ < 0 ∨ (l.length : Int) ≤ at_) :
    Calls Try.prog 13 #[.pointer (some ⟨b, 0, none⟩), .int .i64 at_] w (RetM z0 false (Below w.heap.size w)) := by
  have hb := balloc w (.cells zmc 35)
  have HP := Lib.hid (refHas_out (h.below hb) at_ hn)
  clear h hn
  go_enter Try.func13, Try.ntmps13
  go_wp2_with fail
  refine HP.out.mono ?_
  rintro e w1 ⟨rfl, rfl⟩
  go_wp2_with ((with_reducible refine wpList_store_row (o := ⟨none, _, _, _, _, _⟩) rfl 35 (.tmp 4) (.tmp 22) rfl w.heap.size zmc ?sx ?sy 35 ?old ?sg ?si ?so ?s1 ?_); (case sx => rfl); (case sy => rfl); (case old => exact zmc); (case sg => exact heap_alloc_new w _); (case si => kernel_rfl); (case so => rfl); (case s1 => kernel_rfl))
  exact refNext_ret (m := z0) rfl rfl rfl (setRow_heap _ _ _ _ _ _ (heap_alloc_new w _)) (below_setRow hb (Nat.le_refl _) _)
set_option maxHeartbeats 1000000 in
theorem refNext_no {w : World} {B b : Nat} {room : Int} {l : List Ep} {v : Value} (h : BgD w B b room l v) (i : Nat) (x : Ep) (hx : l[i]? = some x) (hs : x.l = []) :
    Calls Try.prog 13 #[.pointer (some ⟨b, 0, none⟩), .int .i64 i] w (RetM z0 false (Below w.heap.size w)) := by
  have hi := (List.getElem?_eq_some_iff.1 hx).1
  have hb := balloc w (.cells zmc 35)
  obtain ⟨g, cap, rfl, hbg, hgl, hBg, hr, hfz, _, _⟩ := h.one hx
  have HP := Lib.hid (refHas_at (h.below hb) i hi)
  have c1 := blk_cell (h.below hb).blk 1
  simp at c1
  have c16 := (Lib.cell?_alloc_some (.cells zmc 35) (hr 16 _ rfl) : (w.alloc (.cells zmc 35)).cell? ⟨g, i * 17 + 16, none⟩ = some (.slice x.p x.l.length x.c))
  rw [hs] at c16
  simp at c16
  clear h hx hr hfz hs
  go_enter Try.func13, Try.ntmps13
  go_wp2_with fail
  refine HP.out.mono ?_
  rintro e w1 ⟨rfl, rfl⟩
  go_wp2_with ((with_reducible refine wpList_store_row (o := ⟨none, _, _, _, _, _⟩) rfl 35 (.tmp 4) (.tmp 22) rfl w.heap.size zmc ?sx ?sy 35 ?old ?sg ?si ?so ?s1 ?_); (case sx => rfl); (case sy => rfl); (case old => exact zmc); (case sg => exact heap_alloc_new w _); (case si => kernel_rfl); (case so => rfl); (case s1 => kernel_rfl))
  exact refNext_ret (m := z0) rfl rfl rfl (setRow_heap _ _ _ _ _ _ (heap_alloc_new w _)) (below_setRow hb (Nat.le_refl _) _)
set_option maxHeartbeats 1000000 in
theorem refNext_yes {w : World} {B b : Nat} {room : Int} {l : List Ep} {v : Value} (h : QuR w B b room l v) (i : Nat) (x : Ep) (hx : l[i]? = some x) (hf : x.l.length ≤ 5000) {m : Msg} {r : List Msg} (hs : x.l = m :: r) :
    Calls Try.prog 13 #[.pointer (some ⟨b, 0, none⟩), .int .i64 i] w (RetM m true (Below w.heap.size w)) := by
  have hi := (List.getElem?_eq_some_iff.1 hx).1
  have hb := balloc w (.cells zmc 35)
  obtain ⟨g, cap, rfl, hbg, hgl, hBg, hr, hfz, _, _⟩ := h.bg.one hx
  have HP := Lib.hid (refHas_at (h.bg.below hb) i hi)
  have c1 := blk_cell (h.bg.below hb).blk 1
  simp at c1
  obtain ⟨g2, o2, hp, hg2, hr2⟩ := (h.sd x (List.mem_of_getElem? hx)).1 0 m (by rw [hs]; rfl)
  have HR := Lib.hid (World.rangeAt_alloc hr2 (.cells zmc 35))
  have c16 := (Lib.cell?_alloc_some (.cells zmc 35) (hr 16 _ rfl) : (w.alloc (.cells zmc 35)).cell? ⟨g, i * 17 + 16, none⟩ = some (.slice x.p x.l.length x.c))
  rw [hp] at c16
  obtain ⟨n, hn⟩ : ∃ n, n = x.l.length := ⟨_, rfl⟩
  have hn0 : 0 < n := by rw [hn, hs]; simp
  rw [← hn] at c16 hf
  simp only [Nat.zero_mul, Nat.add_zero] at HR
  clear h hx hr hfz hs hr2 hn hp
  go_enter Try.func13, Try.ntmps13
  go_wp2_with fail
  refine HP.out.mono ?_
  rintro e w1 ⟨rfl, rfl⟩
  go_wp2_with (first
    | ((with_reducible refine wpList_load_at (op := ⟨some 32, _, _, _, _, _⟩) rfl 35 (.tmp 31) rfl g2 o2 ?lx (mcells m) _ ?lc Try.underlying35 ?ld ?li ?_); (case lx => rfl); (case lc => exact HR.out); (case ld => rfl); (case li => kernel_rfl))
    | ((with_reducible refine wpList_store_row (o := ⟨none, _, _, _, _, _⟩) rfl 35 (.tmp 4) (.tmp 32) rfl w.heap.size (mcells m) ?sx ?sy 35 ?old ?sg ?si ?so ?s1 ?_); (case sx => rfl); (case sy => rfl); (case old => exact zmc); (case sg => exact heap_alloc_new w _); (case si => kernel_rfl); (case so => rfl); (case s1 => kernel_rfl)))
  exact refNext_ret rfl rfl rfl (setRow_heap _ _ _ _ _ _ (heap_alloc_new w _)) (below_setRow hb (Nat.le_refl _) _)
/-- The document's Next. -/
theorem refNext_any {w : World} {B b : Nat} {room : Int} {l : List Ep} {v : Value} (h : QuR w B b room l v) (at_ : Int) (hf : ∀ x ∈ l, x.l.length ≤ 5000) {m : Msg} {q : Bool} (e : nextP (l.map Ep.pl) at_ = (m, q)) :
    Calls Try.prog 13 #[.pointer (some ⟨b, 0, none⟩), .int .i64 at_] w (RetM m q (Below w.heap.size w)) := by
  rcases at_cases l at_ with ho | ⟨i, x, rfl, hx⟩
  · rw [nextP_out (by rwa [pl_len])] at e
    cases e
    exact refNext_out h.bg at_ ho
  · rcases hs : x.l with _ | ⟨m', r⟩
    · rw [nextP_no (pl_at hx) hs] at e
      cases e
      exact refNext_no h.bg i x hx hs
    · rw [nextP_yes (pl_at hx) hs] at e
      cases e
      exact refNext_yes h i x hx (hf x (List.mem_of_getElem? hx)) hs

end Go.Proofs.Ytnpbbkiojoafbaa
