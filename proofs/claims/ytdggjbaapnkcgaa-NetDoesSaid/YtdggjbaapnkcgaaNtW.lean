/-
  What Take and Of of the document's net do.
-/
import Derived.Test.YtdggjbaapnkcgaaNtV
import Derived.Test.YtdggjbaapnkcgaaNtH
namespace Go.Proofs.Ytdggjbaapnkcgaa
open Go Go.RowKit Go.Sort

theorem own_form7 {w : World} {base e sz n : Nat} {v : Value} {xs : List Value} (h : w.ownsRow base e sz v n xs) : ∃ p cap, v = .slice p n cap := by
  rcases h.2 with ⟨e, h0⟩ | ⟨g, cap, cur, e, _⟩
  · exact ⟨none, 0, by rw [e, h0]⟩
  · exact ⟨_, cap, e⟩
/-- What is left of the first k without the i-th. -/
def but (l : List Msg) (i k : Nat) : List Msg := (l.take k).eraseIdx i
theorem but_zero (l : List Msg) (i : Nat) : but l i 0 = [] := by simp [but]
theorem but_ne (l : List Msg) (i k : Nat) (x : Msg) (hx : l[k]? = some x) (h : k ≠ i) : but l i (k + 1) = but l i k ++ [x] := by
  obtain ⟨hk, e⟩ := List.getElem?_eq_some_iff.1 hx
  unfold but
  rw [List.take_succ_eq_append_getElem hk, e]
  have hl : (l.take k).length = k := by rw [List.length_take]; omega
  rcases Nat.lt_or_ge i k with hi | hi
  · rw [List.eraseIdx_append_of_lt_length (by omega)]
  · rw [List.eraseIdx_of_length_le (by simp; omega), List.eraseIdx_of_length_le (by omega)]
theorem but_eq (l : List Msg) (i : Nat) (hi : i < l.length) : but l i (i + 1) = but l i i := by
  unfold but
  rw [List.take_succ_eq_append_getElem hi]
  have hl : (l.take i).length = i := by rw [List.length_take]; omega
  rw [List.eraseIdx_append_of_length_le (by omega), hl, Nat.sub_self]
  simp [List.eraseIdx_of_length_le, hl]
theorem but_len (l : List Msg) (i k : Nat) : (but l i k).length ≤ k := by
  unfold but
  have h := List.length_eraseIdx_le (l.take k) i
  have h2 : (l.take k).length ≤ k := by rw [List.length_take]; omega
  omega

theorem RefGave.row {w wa w1 : World} {B r : Nat} {c : Cfg} {l l' : Nat → List Msg} {u : Nat → Value} (h : RefP w B r c l u) (ha : Below w.heap.size w wa) (hg : RefGave wa B r c l' u w1) (g : Nat) (hg1 : w.heap.size ≤ g) (hg2 : g < wa.heap.size) (cs : Array Value) : RefGave w B r c l' u (w1.setRow g cs) := by
  obtain ⟨u', h1, ht, hf⟩ := hg
  have hs := ha.size
  have hne : ∀ k, k ≠ g → (w1.setRow g cs).heap[k]? = w1.heap[k]? := fun k hk => setRow_other _ _ _ _ hk
  refine ⟨u', h1.keep fun k hk => hne k fun e => ?_, ⟨ht.os.trans ha.os, ht.tape.trans ha.tape, ht.output.trans ha.output, Nat.le_trans hs (by simpa using ht.size), fun k hk hF => (hne k (by omega)).trans ((ht.other k (by omega) hF).trans (ha.block k hk))⟩, fun k hk => ?_⟩
  · subst e
    rcases hf k hk with e | e
    · have := (h.foot k e).2; omega
    · omega
  · rcases hf k hk with e | e
    · exact .inl e
    · exact .inr (by omega)

variable {w : World} {B r : Nat} {c : Cfg} {l : Nat → List Msg} {u : Nat → Value}
theorem rtake_ret {wr : World} {m : Msg} {q : Int} {P : World → Prop} {a : Act} {g : Nat} (hp : a.tmps.getD 6 undef = .pointer (some ⟨g, 0, none⟩)) (hq : a.tmps.getD 7 undef = .int .i64 q) (hd : a.defers = []) (hg : wr.heap[g]? = some (.cells (mga m) 37 (0, 0))) (hb : P wr) :
    bodyPost Try.prog Try.f15 (TakM m q P) Exit.ret a wr :=
  bodyPost_ret (v := .tuple #[.agg (mga m), a.tmps.getD 7 undef]) (results_cell_two Try.results15 _ _ g 37 _ (0, 0) _ hp hg Try.underlying37 rfl (by kernel_rfl)) hd ⟨by rw [hq], hb⟩

set_option maxRecDepth 100000 in
set_option maxHeartbeats 1000000 in
theorem rtake_of (p : Value) (k i : Int) (w : World) (HB : ∀ wa, Below w.heap.size w wa → Calls Try.prog 9 #[p, .int .i64 k, .int .i64 i] wa (RetM wa m0 (.bool false))) :
    Calls Try.prog 15 #[p, .int .i64 k, .int .i64 i] w (TakM m0 5 (Below w.heap.size w)) := by
  have hal : Below w.heap.size w (w.alloc (.cells (mga m0) 37)) := (Below.refl _ w).alloc (Nat.le_refl _) _
  have HA := Lib.hid (HB _ hal)
  have HAL := Lib.hid hal
  clear hal HB
  go_enter Try.func15, Try.ntmps15
  go_wp2_with fail
  refine HA.out.mono ?_
  rintro e w1 ⟨rfl, hb1⟩
  have h1 := (hb1.block w.heap.size (by simp)).trans (heap_alloc_new w _)
  have hbb := bstep HAL.out hb1
  have hz1 : w.heap.size < w1.heap.size := lt_of_block h1
  clear hb1
  go_wp2_with ((with_reducible refine wpList_store_row (o := ⟨none, _, _, _, _, _⟩) rfl 37 (.tmp 6) (.tmp 21) rfl w.heap.size (mga m0) ?sx ?sy 37 (mga m0) ?sg ?si ?so ?s1 ?_); (case sx => rfl); (case sy => rfl); (case sg => exact (Below.heap_alloc _ _ _ hz1).trans h1); (case si => kernel_rfl); (case so => rfl); (case s1 => kernel_rfl))
  exact rtake_ret rfl rfl rfl (setRow_heap _ _ _ _ _ _ ((Below.heap_alloc _ _ _ hz1).trans h1)) (below_setRow (hbb.alloc (Nat.le_of_lt hz1) _) (Nat.le_refl _) _)
theorem rtake_out (p : Value) (k i : Int) (w : World) (hk : k < 0 ∨ 3 ≤ k) :
    Calls Try.prog 15 #[p, .int .i64 k, .int .i64 i] w (TakM m0 5 (Below w.heap.size w)) :=
  rtake_of p k i w fun _ _ => rat_out p k i _ hk
theorem rtake_none (h : RefP w B r c l u) (j : Nat) (i : Int) (hj : j < 3) (hn : i < 0 ∨ ((l j).length : Int) ≤ i) :
    Calls Try.prog 15 #[.pointer (some ⟨r, 0, none⟩), .int .i64 j, .int .i64 i] w (TakM m0 5 (Below w.heap.size w)) :=
  rtake_of _ _ _ w fun _ hb => rat_none (h.below hb) j i hj hn

theorem wpList_load_at' {P : Program} {ops : Array Oper} {rest : List Oper} {op : Oper} {a : Act} {w : World} {Q : Exit → Act → World → Prop} (hgd : op.guard = none) (ty : TypeId) (x : Operand) (ho : op.op = .load ty x)
    (b o : Nat) (hx : a.eval x = .pointer (some ⟨b, o, none⟩)) (cs : Array Value) (d : TypeDesc) (hc : w.rangeAt b o cs.toList)
    (hu : P.underlying ty = some d) (hd : d.isRow = true) (hi : (P.info? ty).map (·.size) = some cs.toList.length)
    (h : wpList P ops Q rest (a.put op.dst (.agg cs)) w) : wpList P ops Q (op :: rest) a w :=
  wpList_load_mid hgd ty x ho b o hx cs.toList d hc hu hd hi (by simpa using h)

/-- What holds at each round's head. -/
def TkRel (w2 : World) (L : List Msg) (i N : Nat) (out t : Value) (wr : World) : Prop :=
  ∃ k : Nat, k ≤ N ∧ t = .int .i64 k ∧ wr.ownsRow w2.heap.size 37 15 out (but L i k).length (cellsOf mg (but L i k)) ∧ Below w2.heap.size w2 wr

set_option maxRecDepth 100000 in
set_option maxHeartbeats 4000000 in
theorem rtake_yes (h : RefP w B r c l u) (hB : B ≤ w.heap.size) (j i : Nat) (x : Msg) (hj : j < 3) (hx : (l j)[i]? = some x) :
    Calls Try.prog 15 #[.pointer (some ⟨r, 0, none⟩), .int .i64 j, .int .i64 i] w (TakM x 0 (RefGave w B r c (upd l j ((l j).eraseIdx i)) u)) := by
  obtain ⟨i0, hi0, hz0, hz1, hz2⟩ := info_parts A52
  have hal : Below w.heap.size w (w.alloc (.cells (mga m0) 37)) := (Below.refl _ w).alloc (Nat.le_refl _) _
  have HA := Lib.hid (rat_yes (h.below hal) j i x hj hx)
  have HAL := Lib.hid hal
  have hi : i < (l j).length := (List.getElem?_eq_some_iff.1 hx).1
  have hN64 := h.len64 j hj
  have h3 : (j : Int) < 3 := by omega
  have h4 : (0 : Int) ≤ (j : Int) := by omega
  have H := Lib.hid h
  have HJ := Lib.hid hj
  obtain ⟨N, hN⟩ : ∃ N, N = (l j).length := ⟨_, rfl⟩
  rw [← hN] at hi hN64
  have HN := Lib.hid hN
  clear h hal hx hj hN
  go_enter Try.func15, Try.ntmps15
  go_wp2_with fail
  refine HA.out.mono ?_
  rintro e w1 ⟨rfl, hb1⟩
  have h1 := (hb1.block w.heap.size (by simp)).trans (heap_alloc_new w _)
  have hz1' : w.heap.size < w1.heap.size := lt_of_block h1
  have hb12 : Below w1.heap.size w1 (w1.alloc (.cells (mcells x) 37)) := (Below.refl _ _).alloc (Nat.le_refl _) _
  have HW2 := Lib.hid (bstep (bstep HAL.out hb1) hb12)
  have HZ2 := Lib.hid ((hb12.block _ hz1').trans h1)
  have HX2 := Lib.hid (heap_alloc_new w1 (.cells (mcells x) 37))
  clear hb1 h1 hb12 HA HAL
  go_wp2_with fail
  obtain ⟨w2, hw2⟩ : ∃ X, X = w1.alloc (.cells (mcells x) 37) := ⟨_, rfl⟩
  have hsz2 : w1.heap.size + 1 = w2.heap.size := by rw [hw2]; simp
  rw [← hw2] at HW2 HZ2 HX2 ⊢
  clear hw2
  rw [hsz2]
  go_loopw [10, 11] (fun out t wr => TkRel w2 (l j) i N out t wr) (fun _ t _ => N - (intOf t).toNat)
  case atStart =>
    refine ⟨0, Nat.zero_le _, rfl, ?_, (Below.refl _ _).alloc (Nat.le_refl _) _⟩
    rw [but_zero]
    exact (show (w2.alloc (.cells #[] 37)).ownsRow w2.heap.size 37 15 (.slice (some ⟨w2.heap.size, 0, none⟩) 0 0) 0 [] from World.ownsRow_made w2 #[] 0 (Nat.le_refl _) (Nat.zero_le _) rfl)
  case round =>
    obtain ⟨k, hk, rfl, hown, hb⟩ := hrel
    have HO := Lib.hid hown
    have HB := Lib.hid hb
    have hsz := hb.size
    obtain ⟨p, cap, -, c1, -, hf1, hm⟩ := (H.out.below (bstep HW2.out hb)).cells j HJ.out
    rw [← HN.out] at c1
    have HM := Lib.hid hm
    clear hown hb hm
    by_cases hlk : k < N
    · obtain ⟨y, hy⟩ : ∃ y, (l j)[k]? = some y := ⟨_, List.getElem?_eq_getElem (by rw [← HN.out]; exact hlk)⟩
      obtain ⟨g, rfl, hg, hr⟩ := HM.out k y hy
      have HY := Lib.hid hy
      have HR := Lib.hid hr
      clear hy hr hg hf1
      by_cases hki : k = i
      · have hne : ((k : Int) != (i : Int)) = false := by simp [hki]
        have HK := Lib.hid hki
        clear hki
        go_wp2
        go_roundw
        case rel =>
          refine ⟨k + 1, by omega, by go_num, ?_, HB.out⟩
          rw [HK.out, but_eq (l j) i (by rw [← HN.out]; exact hi), ← HK.out]
          exact HK.out ▸ HO.out
        case measure => simp [intOf]; omega
      · have hne : ((k : Int) != (i : Int)) = true := by simp; omega
        have HK := Lib.hid hki
        have hbl := but_len (l j) i k
        have HOO := Lib.hid (HO.out.alloc (.cells (mcells y) 37))
        clear hki
        go_wp2_with (first
          | ((with_reducible refine wpList_load_at' (op := ⟨some 46, _, _, _, _, _⟩) rfl 37 (.tmp 45) rfl g (k * 15) ?lx (mcells y) _ ?lc Try.underlying37 ?ld ?li ?_); (case lx => rfl); (case lc => exact HR.out); (case ld => rfl); (case li => kernel_rfl))
          | (at_builtin; refine wpList_append_lies _ rfl (.tmp 37) (.tmp 47) 46 rfl w2.heap.size 37 i0 (.agg (mga m0)) 15 120 Try.underlying46 hi0 hz0 hz1 hz2 rfl (by decide) _ (but (l j) i k).length (cellsOf mg (but (l j) i k)) rfl HOO.out ⟨wr.heap.size, 0, none⟩ 1 1 (mg y) rfl rfl ?c1 ?c2 (by decide) ?c3 ?c4 ?c5 _ rfl ?_))
        case c1 => exact World.news_of_block (cs := mga y) (t := 37) (fr := (0, 0)) (heap_alloc_new wr _)
        case c2 => intro u hu; exact mg_cells [y] u (by simpa [cellsOf] using hu)
        case c3 => simp only [maxLen]; omega
        case c4 => omega
        case c5 => simp; omega
        intro g' cap' w4 hown hgrow hat hlt2
        have hb4 := (HB.out.alloc hsz (.cells (mcells y) 37)).grown hgrow (by simp; omega) (fun k hk => (HO.out.lt k hk).1)
        have HO4 := Lib.hid hown
        have HB4 := Lib.hid hb4
        clear hown hgrow hat hb4
        go_wp2
        go_roundw
        case rel =>
          refine ⟨k + 1, by omega, by go_num, ?_, HB4.out⟩
          rw [but_ne (l j) i k y HY.out HK.out, cellsOf_append, List.length_append]
          simpa [cellsOf] using HO4.out
        case measure => simp [intOf]; omega
    · have hkn : k = N := by omega
      have hbt : but (l j) i k = (l j).eraseIdx i := by rw [hkn, HN.out]; unfold but; rw [List.take_length]
      have HBT := Lib.hid hbt
      obtain ⟨q, cq, hq⟩ := own_form7 HO.out
      subst hq
      have hzr := (HB.out.block w.heap.size (by have := HW2.out.size; have := lt_of_block HZ2.out; omega)).trans HZ2.out
      have hxr := (HB.out.block w1.heap.size (lt_of_block HX2.out)).trans HX2.out
      have hrl := H.out.lt
      have hzne : r ≠ w.heap.size := by omega
      have hxne : r ≠ w1.heap.size := by omega
      have hz4 := fun y => (heap_setCell_other wr ⟨r, 13 + j, none⟩ w.heap.size y (by simp only; omega)).trans hzr
      have hx4 := fun y => (heap_setCell_other wr ⟨r, 13 + j, none⟩ w1.heap.size y (by simp only; omega)).trans hxr
      have HT : Hid (RefGave w B r c (upd l j ((l j).eraseIdx i)) u ((wr.setCell ⟨r, 13 + j, none⟩ (.slice q (but (l j) i k).length cq)).setRow w.heap.size (mcells x))) := Lib.hid (by
        refine RefGave.row H.out HW2.out ((H.out.below HW2.out).turn (by have := HW2.out.size; omega) HB.out j HJ.out (n := (but (l j) i k).length) (by rw [hbt]) ?_ (hbt ▸ HO.out)) w.heap.size (Nat.le_refl _) (lt_of_block HZ2.out) (mcells x)
        have := H.out.len j HJ.out
        rw [List.length_eraseIdx_of_lt (by rw [← HN.out]; exact hi)]
        omega)
      clear hbt hzr hxr hkn HO HB hrl hzne hxne HM
      go_wp2_with (first
        | ((with_reducible refine wpList_load_row (o := ⟨some 55, _, _, _, _, _⟩) rfl 37 (.tmp 8) rfl w1.heap.size ?lx 37 (mcells x) (0, 0) _ ?lg Try.underlying37 ?ld ?li ?_); (case lx => rfl); (case lg => exact hx4 _); (case ld => rfl); (case li => kernel_rfl))
        | ((with_reducible refine wpList_store_row (o := ⟨none, _, _, _, _, _⟩) rfl 37 (.tmp 6) (.tmp 55) rfl w.heap.size (mcells x) ?sx ?sy 37 (mga m0) ?sg ?si ?so ?s1 ?_); (case sx => rfl); (case sy => rfl); (case sg => exact hz4 _); (case si => kernel_rfl); (case so => rfl); (case s1 => kernel_rfl)))
      exact rtake_ret rfl rfl rfl (setRow_heap _ _ _ _ _ _ (hz4 _)) HT.out

theorem flt_len (line : Int) (L : List Msg) : (flt line L).length ≤ L.length := List.length_filter_le _ _
theorem ahead_len {l : Nat → List Msg} (h : ∀ k, k < 3 → (l k).length ≤ 64) (k : Nat) : (ahead l k).length ≤ 192 := by
  have h0 := h 0 (by omega); have h1 := h 1 (by omega); have h2 := h 2 (by omega)
  unfold ahead allOf
  repeat' split
  all_goals simp
  all_goals omega

set_option maxRecDepth 100000 in
set_option maxHeartbeats 4000000 in
theorem rof_any (h : RefP w B r c l u) (line : Int) :
    Calls Try.prog 21 #[.pointer (some ⟨r, 0, none⟩), .int .i64 line] w (RowGave 37 15 mg (flt line (allOf l)) w) := by
  obtain ⟨i0, hi0, hz0, hz1, hz2⟩ := info_parts A52
  have H := Lib.hid h
  have HAL := Lib.hid (ahead_len h.len64)
  clear h
  go_enter Try.func21, Try.ntmps21
  go_wp2_with fail
  go_loopw [5, 6] (fun out t wr => ∃ k : Nat, k ≤ 3 ∧ t = .int .i64 k ∧ wr.ownsRow w.heap.size 37 15 out (flt line (ahead l k)).length (cellsOf mg (flt line (ahead l k))) ∧ Below w.heap.size w wr) (fun _ t _ => 3 - (intOf t).toNat)
  case atStart =>
    refine ⟨0, by omega, rfl, ?_, (Below.refl _ _).alloc (Nat.le_refl _) _⟩
    exact (show (w.alloc (.cells #[] 37)).ownsRow w.heap.size 37 15 (.slice (some ⟨w.heap.size, 0, none⟩) 0 0) 0 [] from World.ownsRow_made w #[] 0 (Nat.le_refl _) (Nat.zero_le _) rfl)
  case round =>
    obtain ⟨k, hk, rfl, hown, hb⟩ := hrel
    have HO := Lib.hid hown
    have HB := Lib.hid hb
    clear hown hb
    by_cases hlt : k < 3
    · have h3 : (k : Int) < 3 := by omega
      have HK := Lib.hid hlt
      obtain ⟨N, hN⟩ : ∃ N, N = (l k).length := ⟨_, rfl⟩
      have hN64 : N ≤ 64 := by rw [hN]; exact H.out.len64 k hlt
      have HN := Lib.hid hN
      clear hN hlt
      go_wp2_with fail
      go_loopw [5, 7] (fun out t wr => ∃ i : Nat, i ≤ N ∧ t = .int .i64 i ∧ wr.ownsRow w.heap.size 37 15 out (flt line (ahead l k ++ (l k).take i)).length (cellsOf mg (flt line (ahead l k ++ (l k).take i))) ∧ Below w.heap.size w wr) (fun _ t _ => N - (intOf t).toNat)
      case atStart => exact ⟨0, Nat.zero_le _, rfl, by simpa using HO.out, HB.out⟩
      case round =>
        obtain ⟨i, hi, rfl, hown, hb⟩ := hrel
        have HO2 := Lib.hid hown
        have HB2 := Lib.hid hb
        have hsz := hb.size
        obtain ⟨p, cap, -, c1, -, -, hm⟩ := (H.out.below hb).cells k HK.out
        rw [← HN.out] at c1
        have HM := Lib.hid hm
        clear hown hb hm HO HB
        by_cases hil : i < N
        · obtain ⟨y, hy⟩ : ∃ y, (l k)[i]? = some y := ⟨_, List.getElem?_eq_getElem (by rw [← HN.out]; exact hil)⟩
          obtain ⟨g, rfl, hg, hr⟩ := HM.out i y hy
          have HR := Lib.hid hr
          have cy : wr.cell? ⟨g, i * 15 + 1, none⟩ = some (.int .i64 y.ln) := hr 1 _ rfl
          have HT : Hid (ahead l k ++ (l k).take (i + 1) = (ahead l k ++ (l k).take i) ++ [y]) := Lib.hid (by rw [List.take_add_one, hy, List.append_assoc]; rfl)
          obtain ⟨A, hA⟩ : ∃ A, A = ahead l k ++ (l k).take i := ⟨_, rfl⟩
          have hAl : A.length ≤ 300 := by have := HAL.out k; rw [hA]; simp; omega
          have hfl := flt_len line A
          rw [← hA] at HT HO2
          clear hy hr hg hA HM
          rcases Bool.eq_false_or_eq_true (y.ln == line) with hq | hq
          · have HQ := Lib.hid hq
            have HOO := Lib.hid (HO2.out.alloc (.cells (mcells y) 37))
            go_wp2_with (first
              | ((with_reducible refine wpList_load_at' (op := ⟨some 45, _, _, _, _, _⟩) rfl 37 (.tmp 44) rfl g (i * 15) ?lx (mcells y) _ ?lc Try.underlying37 ?ld ?li ?_); (case lx => rfl); (case lc => exact HR.out); (case ld => rfl); (case li => kernel_rfl))
              | (at_builtin; refine wpList_append_lies _ rfl (.tmp 36) (.tmp 46) 46 rfl w.heap.size 37 i0 (.agg (mga m0)) 15 120 Try.underlying46 hi0 hz0 hz1 hz2 rfl (by decide) _ (flt line A).length (cellsOf mg (flt line A)) rfl HOO.out ⟨wr.heap.size, 0, none⟩ 1 1 (mg y) rfl rfl ?c1 ?c2 (by decide) ?c3 ?c4 ?c5 _ rfl ?_))
            case c1 => exact World.news_of_block (cs := mga y) (t := 37) (fr := (0, 0)) (heap_alloc_new wr _)
            case c2 => intro u hu; exact mg_cells [y] u (by simpa [cellsOf] using hu)
            case c3 => simp only [maxLen]; omega
            case c4 => omega
            case c5 => simp; omega
            intro g' cap' w4 hown hgrow hat hlt2
            have hb4 := (HB2.out.alloc hsz (.cells (mcells y) 37)).grown hgrow (by simp; omega) (fun k hk => (HO2.out.lt k hk).1)
            have HO4 := Lib.hid hown
            have HB4 := Lib.hid hb4
            clear hown hgrow hat hb4 hq
            go_wp2
            go_roundw
            case rel =>
              refine ⟨i + 1, by omega, by go_num, ?_, HB4.out⟩
              rw [HT.out, flt_hit A HQ.out, cellsOf_append, List.length_append]
              simpa [cellsOf] using HO4.out
            case measure => simp [intOf]; omega
          · have HQ := Lib.hid hq
            go_wp2_with fail
            go_roundw
            case rel =>
              refine ⟨i + 1, by omega, by go_num, ?_, HB2.out⟩
              rw [HT.out, flt_miss A HQ.out]
              exact HO2.out
            case measure => simp [intOf]; omega
        · have hin : i = N := by omega
          have HE : Hid (ahead l k ++ (l k).take i = ahead l (k + 1)) := Lib.hid (by rw [ahead_succ l k HK.out, hin, HN.out, List.take_length])
          rw [HE.out] at HO2
          clear hin HM
          go_wp2_with fail
          go_roundw
          case rel => exact ⟨k + 1, by omega, by go_num, HO2.out, HB2.out⟩
          case measure => simp [intOf]; omega
    · obtain rfl : k = 3 := by omega
      clear hlt
      go_wp2_with fail
      go_ret
      exact ⟨_, rfl, HO.out, HB.out⟩

end Go.Proofs.Ytdggjbaapnkcgaa
