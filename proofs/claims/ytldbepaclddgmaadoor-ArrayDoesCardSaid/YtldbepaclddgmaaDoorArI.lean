/-
  Which lines are there: Lines; whether two lists are the same.
-/
import Derived.Test.YtldbepaclddgmaaDoorArH
import Derived.Test.YtldbepaclddgmaaDoorShelf
import Derived.Sort.OwnSortedInts
import Derived.OwnWalk
namespace Go.Proofs.YtldbepaclddgmaaDoor
open Go Go.RowKit Go.Sort

/-- Do these numbers lie where a slice begins? -/
def NumsIn (w : World) (p : Option Addr) (l : List Int) : Prop :=
  ∀ j, j < l.length → ∃ g off, p = some ⟨g, off, none⟩ ∧ g < w.heap.size ∧ w.cell? ⟨g, off + j, none⟩ = some (.int .i64 (l.getD j 0))
theorem NumsIn.step {w w' : World} {p : Option Addr} {l : List Int} (h : NumsIn w p l) (hb : Below w.heap.size w w') : NumsIn w' p l := fun j hj => by
  obtain ⟨g, off, e, hg, h0⟩ := h j hj
  exact ⟨g, off, e, Nat.lt_of_lt_of_le hg hb.size, (hb.cell (p := ⟨g, off + j, none⟩) hg).trans h0⟩
theorem NumsIn.nil (w : World) (p : Option Addr) : NumsIn w p [] := fun j hj => by simp at hj
theorem NumsIn.of_cells {w : World} {g : Nat} {l : List Int} (hg : g < w.heap.size) (h : ∀ j, j < l.length → w.cell? ⟨g, j, none⟩ = some (.int .i64 (l.getD j 0))) : NumsIn w (some ⟨g, 0, none⟩) l := fun j hj =>
  ⟨g, 0, rfl, hg, by rw [Nat.zero_add]; exact h j hj⟩
/-- Numbers as cells. -/
abbrev ints (l : List Int) : List Value := l.map (Value.int .i64)
theorem ints_at (l : List Int) (j : Nat) : (ints l)[j]? = if j < l.length then some (.int .i64 (l.getD j 0)) else none := by
  rw [List.getElem?_map]
  by_cases h : j < l.length
  · simp [h, List.getD_eq_getElem?_getD]
  · rw [if_neg h, List.getElem?_eq_none (by omega)]
    rfl
theorem ints_one (l : List Int) : ∀ v ∈ ints l, v.oneCell' = true := fun v hv => by
  obtain ⟨x, _, rfl⟩ := List.mem_map.1 hv
  rfl
theorem own_in {w : World} {B : Nat} {v : Value} {l : List Int} (h : w.ownsRow B 3 1 v l.length (ints l)) : ∃ p cap, v = .slice p l.length cap ∧ NumsIn w p l := by
  rcases h.2 with ⟨rfl, h0⟩ | ⟨g, cap, cur, rfl, hb, hg, rest⟩
  · exact ⟨none, 0, by rw [h0], fun j hj => by omega⟩
  · refine ⟨_, cap, rfl, NumsIn.of_cells ((Array.getElem?_eq_some_iff.1 hg).1) fun j hj => ?_⟩
    rw [h.cellAt j (by omega), ints_at, if_pos hj]
theorem own_block {w w' : World} {base e sz n : Nat} {v : Value} {xs : List Value} (h : w.ownsRow base e sz v n xs) (hb : ∀ k, v.ownBlock = some k → w'.heap[k]? = w.heap[k]?) : w'.ownsRow base e sz v n xs := by
  refine ⟨h.1, ?_⟩
  rcases h.2 with hn | ⟨g, cap, cur, rfl, hb', hgg, rest⟩
  · exact .inl hn
  · exact .inr ⟨g, cap, cur, rfl, hb', (hb g rfl).trans hgg, rest⟩

theorem beq_split (l m : List Int) (he : l.length = m.length) : (l == m) = true ↔ ∀ j, j < l.length → l.getD j 0 = m.getD j 0 := by
  rw [beq_iff_eq]
  constructor
  · rintro rfl j _; rfl
  · intro h
    refine List.ext_getElem he fun j h1 h2 => ?_
    have := h j h1
    simpa [List.getD_eq_getElem?_getD, h1, h2] using this

/-- Same. -/
theorem same_any (p q : Option Addr) (cp cq : Nat) (l m : List Int) (w : World) (hl : l.length ≤ 5000) (h1 : NumsIn w p l) (h2 : NumsIn w q m) :
    Calls Tryd.prog 17 #[.slice p l.length cp, .slice q m.length cq] w fun e w' => e = .returned (.bool (l == m)) ∧ ∃ n, w' = w.drewN n := by
  have H1 := Lib.hid h1
  have H2 := Lib.hid h2
  clear h1 h2
  by_cases hlen : l.length = m.length
  · have HB := Lib.hid (beq_split l m hlen)
    have hne : ((l.length : Int) != (m.length : Int)) = false := by simp [hlen]
    have HL := Lib.hid hlen
    clear hlen
    go_enter Tryd.func17, Tryd.ntmps17
    go_wp2
    go_loopw [5] (fun i wr => ∃ k : Nat, k ≤ l.length ∧ i = .int .i64 k ∧ (∀ j, j < k → l.getD j 0 = m.getD j 0) ∧ ∃ n, wr = w.drewN n) (fun i _ => l.length - (intOf i).toNat)
    case atStart => exact ⟨0, Nat.zero_le _, rfl, fun j hj => by omega, 0, rfl⟩
    case round =>
      obtain ⟨k, hk, rfl, hno, n, rfl⟩ := hrel
      have HN := Lib.hid hno
      clear hno
      by_cases hlt : k < l.length
      · obtain ⟨g, off, rfl, hg, hc⟩ := H1.out k hlt
        have hlm : k < m.length := by have := HL.out; omega
        obtain ⟨g', off', rfl, hg', hc'⟩ := H2.out k hlm
        obtain ⟨y, hy⟩ : ∃ y, y = l.getD k 0 := ⟨_, rfl⟩
        obtain ⟨z, hz⟩ : ∃ z, z = m.getD k 0 := ⟨_, rfl⟩
        rw [← hy] at hc
        rw [← hz] at hc'
        have HY := Lib.hid hy
        have HZ := Lib.hid hz
        clear hy hz
        by_cases he : y = z
        · have he' : (y != z) = false := by simpa using he
          have HE := Lib.hid he
          clear he
          go_wp2
          go_quiet (fail)
          go_wp2
          go_roundw
          case rel => exact ⟨k + 1, by omega, by go_num, fun j hj => by rcases Nat.lt_or_ge j k with h | h; exact HN.out j h; (rw [show j = k by omega, ← HY.out, ← HZ.out]; exact HE.out), _, rfl⟩
          case measure => simp [intOf]; omega
        · have he' : (y != z) = true := by simpa using he
          have HE := Lib.hid he
          clear he
          go_wp2
          go_quiet (fail)
          go_wp2
          go_ret
          refine ⟨ret_bool ?_, n + nq, by simp⟩
          cases hb : (l == m) with
          | false => rfl
          | true => exact absurd (HY.out ▸ HZ.out ▸ HB.out.1 hb k hlt) HE.out
      · go_wp2
        go_ret
        exact ⟨ret_bool (HB.out.2 fun j hj => HN.out j (by omega)).symm, _, rfl⟩
  · have hne : ((l.length : Int) != (m.length : Int)) = true := by simp; omega
    have HB : Hid ((l == m) = false) := Lib.hid (by rw [beq_eq_false_iff_ne]; exact fun e => hlen (by rw [e]))
    clear hlen
    go_enter Tryd.func17, Tryd.ntmps17
    go_wp2
    go_ret
    exact ⟨ret_bool HB.out.symm, 0, rfl⟩


theorem A3 : (Tryd.prog.info? 3).map (fun i => (i.zero, i.size, i.bytes)) = some (some (.int .i64 0), 1, 8) := by kernel_rfl
/-- What a call gives that tells a list of numbers. -/
def GaveL (w : World) (l : List Int) (e : Ending) (w' : World) : Prop := ∃ p cap, e = .returned (.slice p l.length cap) ∧ NumsIn w' p l ∧ Below w.heap.size w w'
theorem linesU_yes {L : List Wy} {k : Nat} {x : Wy} (hx : L[k]? = some x) (h : tk x = true) : linesU (L.take (k + 1)) = linesU (L.take k) ++ [x.ln] := by
  rw [List.take_add_one, hx]
  simp [linesU, h]
theorem linesU_no {L : List Wy} {k : Nat} {x : Wy} (hx : L[k]? = some x) (h : tk x = false) : linesU (L.take (k + 1)) = linesU (L.take k) := by
  rw [List.take_add_one, hx]
  simp [linesU, h]
theorem linesU_len (L : List Wy) (k : Nat) : (linesU (L.take k)).length ≤ k := by
  unfold linesU
  rw [List.length_map]
  have h1 := List.length_filter_le tk (L.take k)
  have h2 := List.length_take_le k L
  omega

set_option maxHeartbeats 2000000 in
theorem lines_any {w : World} {b g : Nat} {c : Cfg} {L : List Wy} (h : Ar w b g c L) :
    Calls Tryd.prog 18 #[.pointer (some ⟨b, 0, none⟩)] w (GaveL w (linesP L)) := by
  obtain ⟨i0, hi0, hz0, hz1, hz2⟩ := info_parts A3
  have hn : L.length ≤ 512 := by
    have hw := ok_ways h.sz.ok
    have := Nat.mul_le_mul (show c.se.toNat ≤ 64 by omega) (show c.wa.toNat ≤ 8 by omega)
    rw [h.sz.len]
    omega
  have h13 := h.hd 13
  simp at h13
  have HL := Lib.hid h.ways
  have hg := h.gl
  clear h
  go_enter Tryd.func18, Tryd.ntmps18
  go_wp2
  go_loopw [3, 11] (fun v i wr => ∃ k : Nat, k ≤ L.length ∧ i = .int .i64 k ∧ wr.ownsRow w.heap.size 3 1 v (linesU (L.take k)).length (ints (linesU (L.take k))) ∧ Below w.heap.size w wr) (fun _ i _ => L.length - (intOf i).toNat)
  case atStart => exact ⟨0, Nat.zero_le _, rfl, World.ownsRow_nil _ _ _ _, Below.refl _ _⟩
  case round =>
    obtain ⟨k, hk, rfl, hown, hb⟩ := hrel
    have HW := Lib.hid hown
    clear hown h13
    by_cases hlt : k < L.length
    · obtain ⟨x, hx⟩ : ∃ x, L[k]? = some x := ⟨_, List.getElem?_eq_getElem hlt⟩
      have hr := HL.out.below hg hb k x hx
      rw [Nat.zero_add] at hr
      have HR := Lib.hid hr
      have hb1 : ∀ o, Below w.heap.size w (wr.alloc o) := fun o => hb.alloc hb.size _
      clear hr
      rcases Bool.eq_false_or_eq_true (tk x) with ht | ht
      · have HU := Lib.hid (linesU_yes hx ht)
        have hlen := linesU_len L k
        clear hx
        go_wp2_with (first
          | ((with_reducible refine wpList_load_mid (op := ⟨some 14, _, _, _, _, _⟩) rfl 43 (.tmp 13) rfl g (k * 11) ?lx (yc x) _ ?lc Tryd.underlying43 ?ld ?li ?_); (case lx => rfl); (case lc => exact HR.out); (case ld => rfl); (case li => kernel_rfl))
          | ((with_reducible refine wpList_store_row (o := ⟨none, _, _, _, _, _⟩) rfl 43 (.tmp 5) (.tmp 14) rfl wr.heap.size (ycells x) ?sx ?sy 43 ?old ?sg ?si ?so ?s1 ?_); (case sx => rfl); (case sy => rfl); (case old => exact ycells y0); (case sg => exact heap_alloc_new wr _); (case si => kernel_rfl); (case so => rfl); (case s1 => kernel_rfl))
          | ((with_reducible refine wpList_load_row (o := ⟨some 15, _, _, _, _, _⟩) rfl 43 (.tmp 5) rfl wr.heap.size ?lx 43 (ycells x) (0, 0) _ ?lg Tryd.underlying43 ?ld ?li ?_); (case lx => rfl); (case lg => exact setRow_heap _ _ _ _ _ _ (heap_alloc_new wr _)); (case ld => rfl); (case li => kernel_rfl))
          | (go_at_call 29; fail))
        refine (taken_any x _).mono ?_
        rintro e w4 ⟨rfl, hb4⟩
        rw [ht]
        have HS4 : Below wr.heap.size wr w4 := bstep (below_setRow ((Below.refl _ wr).alloc (Nat.le_refl _) _) (Nat.le_refl _) _) hb4
        have hc4 : w4.cell? ⟨wr.heap.size, 1, none⟩ = some (.int .i64 x.ln) := by
          have hlt4 : wr.heap.size < ((wr.alloc (.cells (ycells y0) 43)).setRow wr.heap.size (ycells x)).heap.size := by simp
          have hbx : w4.heap[wr.heap.size]? = some (.cells (ycells x) 43 (0, 0)) := (hb4.block wr.heap.size hlt4).trans (setRow_heap _ _ _ _ _ _ (heap_alloc_new wr _))
          rw [blk_cells hbx]
          rfl
        have HB4 := Lib.hid (bstep hb HS4)
        have HW4 := Lib.hid (own_block HW.out fun q hq => HS4.block q (HW.out.lt q hq).2)
        clear hb4 HS4 hb1 hb
        have hz4 := HB4.out.size
        have HW5 := Lib.hid (HW4.out.alloc (.cells #[.int .i64 x.ln] 3))
        go_wp2_with (at_builtin; refine wpList_append_own _ rfl (.tmp 17) (.tmp 20) 51 rfl w.heap.size 3 i0 (.int .i64 0) 1 8 Tryd.underlying51 hi0 hz0 hz1 hz2 rfl (by decide) _ (linesU (L.take k)).length (ints (linesU (L.take k))) rfl HW5.out ⟨w4.heap.size, 0, none⟩ 1 1 [.int .i64 x.ln] rfl rfl ?c1 ?c2 ?c3 ?c4 ?c5 ?_)
        case c1 => intro j u hj; cases j <;> simp at hj; subst hj; exact World.cell?_alloc_mark w4 #[.int .i64 x.ln] 3 (0, 0) 0
        case c2 => simp [Value.oneCell']
        case c3 => simp only [maxLen]; omega
        case c4 => omega
        case c5 => simp; omega
        intro v' w6 hown6 hgrow _
        have hb6 : Below w.heap.size w w6 := (HB4.out.alloc hz4 (.cells #[.int .i64 x.ln] 3)).grown hgrow (by simp; omega) (fun q hq => (HW4.out.lt q hq).1)
        have HB6 := Lib.hid hb6
        have HW6 := Lib.hid hown6
        clear hgrow hown6 hb6
        go_wp2
        go_roundw
        case rel =>
          refine ⟨k + 1, by omega, by go_num, ?_, HB6.out⟩
          rw [HU.out, List.length_append]
          simpa using HW6.out
        case measure => simp [intOf]; omega
      · have HU := Lib.hid (linesU_no hx ht)
        clear hx
        go_wp2_with (first
          | ((with_reducible refine wpList_load_mid (op := ⟨some 14, _, _, _, _, _⟩) rfl 43 (.tmp 13) rfl g (k * 11) ?lx (yc x) _ ?lc Tryd.underlying43 ?ld ?li ?_); (case lx => rfl); (case lc => exact HR.out); (case ld => rfl); (case li => kernel_rfl))
          | ((with_reducible refine wpList_store_row (o := ⟨none, _, _, _, _, _⟩) rfl 43 (.tmp 5) (.tmp 14) rfl wr.heap.size (ycells x) ?sx ?sy 43 ?old ?sg ?si ?so ?s1 ?_); (case sx => rfl); (case sy => rfl); (case old => exact ycells y0); (case sg => exact heap_alloc_new wr _); (case si => kernel_rfl); (case so => rfl); (case s1 => kernel_rfl))
          | ((with_reducible refine wpList_load_row (o := ⟨some 15, _, _, _, _, _⟩) rfl 43 (.tmp 5) rfl wr.heap.size ?lx 43 (ycells x) (0, 0) _ ?lg Tryd.underlying43 ?ld ?li ?_); (case lx => rfl); (case lg => exact setRow_heap _ _ _ _ _ _ (heap_alloc_new wr _)); (case ld => rfl); (case li => kernel_rfl))
          | (go_at_call 29; fail))
        refine (taken_any x _).mono ?_
        rintro e w4 ⟨rfl, hb4⟩
        rw [ht]
        have HS4 : Below wr.heap.size wr w4 := bstep (below_setRow ((Below.refl _ wr).alloc (Nat.le_refl _) _) (Nat.le_refl _) _) hb4
        have HB4 := Lib.hid (bstep hb HS4)
        have HW4 := Lib.hid (own_block HW.out fun q hq => HS4.block q (HW.out.lt q hq).2)
        clear hb4 HS4 hb1 hb
        go_wp2
        go_roundw
        case rel => exact ⟨k + 1, by omega, by go_num, by rw [HU.out]; exact HW4.out, HB4.out⟩
        case measure => simp [intOf]; omega
    · have hkc : L.take k = L := List.take_of_length_le (by omega)
      rw [hkc] at HW
      have hlu : (linesU L).length ≤ 512 := by
        have := linesU_len L k
        rw [hkc] at this
        omega
      have hlen : (linesP L).length = (linesU L).length := List.length_mergeSort _
      clear hkc HL
      rcases HW.out.2 with ⟨rfl, h0⟩ | ⟨g', cap, cur, rfl, hbase, hbk, h1, h2, h3, h4⟩
      · have hnil : linesP L = [] := List.eq_nil_of_length_eq_zero (hlen.trans h0)
        have HE : Hid (GaveL w (linesP L) (.returned (.slice none 0 0)) wr) := Lib.hid (by
          rw [hnil]
          exact ⟨none, 0, rfl, NumsIn.nil _ _, hb⟩)
        clear h0 hlen hlu hnil HW hb
        go_wp2_with (go_at_call 30; refine (Tryd.slices_Sort_int_none none 0 wr).mono ?_; rintro e w7 ⟨rfl, rfl⟩)
        go_ret
        exact HE.out
      · have HSORT := Lib.hid (Tryd.slices_Sort_int g' 0 cap (linesU L) wr (holds_of_blockI hbk (by simpa using h4)) (Array.getElem?_eq_some_iff.1 hbk).1 (by omega))
        have HE : Hid (∀ n os, GaveL w (linesP L) (.returned (.slice (some ⟨g', 0, none⟩) (linesU L).length cap)) (grow (putRow (Value.int .i64) (Sort.ahead wr n) g' 0 ((linesU L).mergeSort fun x y => decide (x ≤ y)).toArray) os)) := Lib.hid (fun n os => by
          have ho := ownsRow_sortedI (n := n) (os := os) hlen hbase hbk h1 h2 h3
          rw [← hlen] at ho
          obtain ⟨p, cp, e, hin⟩ := own_in ho
          refine ⟨p, cp, by rw [← hlen, ← e], hin, hb.grown (grownBy_sortedI _) hb.size (fun j hj => by cases hj; exact hbase)⟩)
        clear HW hb hbase hbk h1 h2 h3 h4 hlu hlen
        go_wp2_with (go_at_call 30; refine HSORT.out.mono ?_; rintro e w7 ⟨rfl, nn, os, rfl⟩)
        go_ret
        exact HE.out nn os

end Go.Proofs.YtldbepaclddgmaaDoor
