/-
  The document's Add.
-/
import Derived.Test.YtfnemldjhfcalaaShS
import Derived.Test.YtfnemldjhfcalaaShT
import Derived.Deep.AppendLies
namespace Go.Proofs.Ytfnemldjhfcalaa
open Go Go.RowKit Go.Sort

theorem sorted_ext : ∀ {l m : List Int}, l.Pairwise (· < ·) → m.Pairwise (· < ·) → (∀ y, y ∈ l ↔ y ∈ m) → l = m
  | [], [], _, _, _ => rfl
  | [], y :: m, _, _, h => absurd ((h y).2 (List.mem_cons_self ..)) (by simp)
  | x :: l, [], _, _, h => absurd ((h x).1 (List.mem_cons_self ..)) (by simp)
  | x :: l, y :: m, hl, hm, h => by
    rw [List.pairwise_cons] at hl hm
    have e : x = y := by
      rcases List.mem_cons.1 ((h x).1 (List.mem_cons_self ..)) with e | hx
      · exact e
      · rcases List.mem_cons.1 ((h y).2 (List.mem_cons_self ..)) with e | hy
        · exact e.symm
        · have h1 := hl.1 y hy
          have h2 := hm.1 x hx
          omega
    subst e
    congr 1
    refine sorted_ext hl.2 hm.2 fun z => ⟨fun hz => ?_, fun hz => ?_⟩
    · rcases List.mem_cons.1 ((h z).1 (List.mem_cons_of_mem _ hz)) with e | hz'
      · have := hl.1 z hz
        omega
      · exact hz'
    · rcases List.mem_cons.1 ((h z).2 (List.mem_cons_of_mem _ hz)) with e | hz'
      · have := hm.1 z hz
        omega
      · exact hz'
theorem canon_self {c : Nat} {l : List Int} (h : risesB c 0 l = true) : canon c (fun y => l.contains y) = l := by
  obtain ⟨hp, ha⟩ := rises_all h
  refine sorted_ext (canon_sorted c _) hp fun y => ?_
  rw [mem_canon, List.contains_iff_mem]
  exact ⟨fun h => h.2, fun h => ⟨⟨(ha y h).2.1, (ha y h).2.2⟩, h⟩⟩
/-- Those below k that are x, or in a list. -/
def moreL (l : List Int) (x : Int) (k : Nat) : List Int := canon k fun y => y == x || l.contains y
theorem moreL_ins {c : Nat} {l : List Int} {x : Int} (h : risesB c 0 l = true) (h0 : 0 ≤ x) (hc : x < c) (hx : l.contains x = false) : moreL l x c = insAt l (less l x) x := by
  have h1 := canon_ins (f := fun y => l.contains y) h0 hx hc
  rw [canon_self h] at h1
  rw [h1]
  exact canon_congr fun y _ _ => by unfold orB; rw [Bool.or_comm]
theorem moreL_len (l : List Int) (x : Int) (k : Nat) : (moreL l x k).length ≤ k := canon_len _ _

/-- What the document's Add gives. -/
def GaveR (w : World) (s : St) (e : Int) (x : Ending) (w' : World) : Prop := ∃ p cap, x = .returned (.tuple #[.agg (sval s p cap), .int .i64 e]) ∧ NumsIn w' p s.l ∧ Below w.heap.size w w'
/-- .. and its pointers' list is the one that came in, or none, or new. -/
def GaveR2 (w : World) (s : St) (e : Int) (p0 : Option Addr) (l0 : List Int) (x : Ending) (w' : World) : Prop := ∃ p cap, x = .returned (.tuple #[.agg (sval s p cap), .int .i64 e]) ∧ NumsIn w' p s.l ∧ Below w.heap.size w w' ∧ ((p = p0 ∧ s.l = l0) ∨ s.l = [] ∨ ∀ a, p = some a → w.heap.size ≤ a.block)
theorem gaveR_ret {w wr : World} {s : St} {e : Int} {a : Act} {fn : Func} {g n : Nat} {p : Option Addr} {cap : Nat} {t1 t2 : Tmp} (hl : s.l.length = n) (hres : fn.results = #[.cell t1 35, .tmp t2]) (hp : a.tmps.getD t1 undef = .pointer (some ⟨g, 0, none⟩)) (hq : a.tmps.getD t2 undef = .int .i64 e) (hd : a.defers = [])
    (hg : wr.heap[g]? = some (.cells (sv s.c s.m p n cap s.al) 35 (0, 0))) (hn : NumsIn wr p s.l) (hb : Below w.heap.size w wr) (p0 : Option Addr) (l0 : List Int) (ho : (p = p0 ∧ s.l = l0) ∨ s.l = [] ∨ ∀ a, p = some a → w.heap.size ≤ a.block) : bodyPost Try.prog fn (GaveR2 w s e p0 l0) Exit.ret a wr := by
  subst hl
  exact bodyPost_ret (v := .tuple #[.agg (sval s p cap), a.tmps.getD t2 undef]) (results_cell_two hres _ _ g 35 _ (0, 0) _ hp hg Try.underlying35 rfl (by kernel_rfl)) hd ⟨p, cap, by rw [hq], hn, hb, ho⟩

/-- The set that is being made is in block o. -/
structure RSt (w : World) (A : Array Value) (o : Nat) (X : Array Value) (wr : World) : Prop where
  h2 : H2 w A zc 35 35 wr
  out : wr.heap[o]? = some (.cells X 35 (0, 0))
  big : w.heap.size + 2 ≤ o
theorem RSt.step {w wr wr' : World} {A X : Array Value} {o : Nat} (h : RSt w A o X wr) (hb : Below wr.heap.size wr wr') : RSt w A o X wr' :=
  ⟨h.h2.step hb, (hb.block o (lt_of_block h.out)).trans h.out, h.big⟩
theorem RSt.past {w wr wr' : World} {A X : Array Value} {o : Nat} (h : RSt w A o X wr) (hb : Below (o + 1) wr wr') : RSt w A o X wr' :=
  have hbg := h.big
  ⟨h.h2.past (hb.mono (by omega)), (hb.block o (by omega)).trans h.out, h.big⟩
theorem RSt.set {w wr : World} {A X : Array Value} {o : Nat} (h : RSt w A o X wr) (i : Nat) (u : Value) : RSt w A o (X.setIfInBounds i u) (wr.setCell ⟨o, i, none⟩ u) :=
  have hbg := h.big
  ⟨⟨(heap_setCell_other _ _ _ _ (by simp only; omega)).trans h.h2.a, (heap_setCell_other _ _ _ _ (by simp only; omega)).trans h.h2.b, h.h2.below.setCell (by simp only; omega) u⟩, heap_setCell_same wr o i _ _ u h.out, h.big⟩

set_option maxRecDepth 100000 in
set_option maxHeartbeats 4000000 in
theorem refAdd_apart (s : St) (p : Option Addr) (cap : Nat) (x : Int) (w : World) (h : NumsIn w p s.l) (hl : s.l.length ≤ 5000) :
    Calls Try.prog 23 #[.agg (sval s p cap), .int .i64 x] w (GaveR2 w (addS s x).1 (addS s x).2 p s.l) := by
  have K := H2.box w (sval s p cap) zc 35 35
  have H := Lib.hid h
  clear h
  rcases Bool.eq_false_or_eq_true (mayB s.c s.m s.l s.al) with hm | hm
  · have HM := Lib.hid hm
    obtain ⟨hc1, hc64, hm0, hm8, hl8⟩ := may_bounds hm
    have hri := may_rises hm
    have hlm : (s.l.length : Int) ≤ s.m := by
      simp only [mayB, Bool.and_eq_true, decide_eq_true_eq] at hm
      have := hm.1.2
      cases ha : s.al
      · rwa [ha, if_neg (by simp)] at this
      · rw [ha, if_pos rfl] at this
        omega
    rcases Bool.eq_false_or_eq_true (hasB s.c x) with hh | hh
    · obtain ⟨hx0, hxc⟩ := hasB_iff.1 hh
      have hd1 : decide (x < 0) = false := by simp; omega
      have hd2 : decide (s.c ≤ x) = false := by simp; omega
      rcases Bool.eq_false_or_eq_true (toldB s.l s.al x) with ht | ht
      · have HT := Lib.hid (show (hasB s.c x && toldB s.l s.al x) = true by rw [hh, ht]; rfl)
        have e : addS s x = (s, 0) := by unfold addS St.may withS; rw [if_pos hm, if_pos hh, if_pos ht]
        rw [e]
        clear hm hh ht e hri
        go_enter Try.func23, Try.ntmps23
        go_wp2_with (fail)
        refine (refMay_any s.c s.m p cap s.l s.al _ (H.out.step K.below) (by omega)).mono ?_
        rintro e w1 ⟨rfl, hb1⟩
        rw [HM.out]
        have K2 := K.step hb1
        have hc2 := K2.cellsA
        clear hb1 K
        go_wp2_with (fail)
        refine (refHas_is HT.out p cap _ (H.out.step K2.below) (by omega)).mono ?_
        rintro e w2 ⟨rfl, hb2⟩
        have K3 := K2.step hb2
        have hc3 := K3.cellsA
        clear hb2 hc2 K2
        go_wp2_with ((with_reducible refine wpList_store_row (o := ⟨none, _, _, _, _, _⟩) rfl 35 (.tmp 4) (.tmp 24) rfl (w.heap.size + 1) (sval s p cap) ?sx ?sy 35 zc ?sg ?si ?so ?s1 ?_); (case sx => rfl); (case sy => rfl); (case sg => exact K3.b); (case si => kernel_rfl); (case so => rfl); (case s1 => kernel_rfl))
        have hin := (H.out.step ((below_setRow K3.below (by omega) (sval s p cap) : Below w.heap.size w (w2.setRow (w.heap.size + 1) (sval s p cap)))))
        exact gaveR_ret rfl Try.results23 rfl rfl rfl (setRow_heap _ _ _ _ _ _ K3.b) hin (below_setRow K3.below (by omega) _) p s.l (.inl ⟨rfl, rfl⟩)
      · have HT := Lib.hid (show (hasB s.c x && toldB s.l s.al x) = false by rw [hh, ht]; rfl)
        have hal : s.al = false := by cases ha : s.al; rfl; rw [ha] at ht; simp [toldB] at ht
        have hnc : s.l.contains x = false := by rw [hal] at ht; simpa [toldB] using ht
        by_cases hlen : (s.l.length : Int) = s.m
        · have e : addS s x = (⟨s.c, s.m, [], true⟩, 0) := by unfold addS St.may withS; rw [if_pos hm, if_pos hh, if_neg (by rw [ht]; simp), if_pos hlen]
          rw [e]
          have hgt : decide (s.m < (s.l.length : Int) + 1) = true := by simp; omega
          clear hm hh ht e hri hlen hnc hal
          go_enter Try.func23, Try.ntmps23
          go_wp2_with (fail)
          refine (refMay_any s.c s.m p cap s.l s.al _ (H.out.step K.below) (by omega)).mono ?_
          rintro e w1 ⟨rfl, hb1⟩
          rw [HM.out]
          have K2 := K.step hb1
          have hc2 := K2.cellsA
          clear hb1 K
          go_wp2_with (fail)
          refine (refHas_is HT.out p cap _ (H.out.step K2.below) (by omega)).mono ?_
          rintro e w2 ⟨rfl, hb2⟩
          have K3 := K2.step hb2
          have hc3 := K3.cellsA
          have hltA := lt_of_block K3.a
          have hltB := lt_of_block K3.b
          have hbo := balloc w2 (.cells (sv s.c s.m none 0 0 false) 35)
          have R : RSt w (sval s p cap) w2.heap.size (sv s.c s.m none 0 0 false) (w2.alloc (.cells (sv s.c s.m none 0 0 false) 35)) := ⟨K3.step hbo, heap_alloc_new w2 _, by omega⟩
          have hcA := R.h2.cellsA
          have hbo2 := balloc w2 (.cells (sv s.c s.m none 0 0 true) 35)
          have R2 : RSt w (sval s p cap) w2.heap.size (sv s.c s.m none 0 0 true) (w2.alloc (.cells (sv s.c s.m none 0 0 true) 35)) := ⟨K3.step hbo2, heap_alloc_new w2 _, by omega⟩
          clear hb2 hc2 K2 hbo hbo2 K3
          go_wp2_with ((with_reducible refine wpList_store_row (o := ⟨none, _, _, _, _, _⟩) rfl 35 (.tmp 4) (.tmp 38) rfl (w.heap.size + 1) (sv s.c s.m none 0 0 true) ?sx ?sy 35 zc ?sg ?si ?so ?s1 ?_); (case sx => rfl); (case sy => rfl); (case sg => exact R2.h2.b); (case si => kernel_rfl); (case so => rfl); (case s1 => kernel_rfl))
          exact gaveR_ret (s := ⟨s.c, s.m, [], true⟩) rfl Try.results23 rfl rfl rfl (setRow_heap _ _ _ _ _ _ R2.h2.b) (NumsIn.nil _ _) (below_setRow R2.h2.below (by omega) _) p s.l (.inr (.inl rfl))
        · have hil := insAt_len s.l (less s.l x) x (less_le _ _)
          have e : addS s x = (⟨s.c, s.m, insAt s.l (less s.l x) x, false⟩, 0) := by unfold addS St.may withS; rw [if_pos hm, if_pos hh, if_neg (by rw [ht]; simp), if_neg hlen, hal]
          rw [e]
          have hgt : decide (s.m < (s.l.length : Int) + 1) = false := by simp; omega
          obtain ⟨cn, hcn⟩ : ∃ cn : Nat, s.c = cn := ⟨s.c.toNat, by omega⟩
          have hmi : moreL s.l x cn = insAt s.l (less s.l x) x := moreL_ins (by rw [← hcn]; exact hri) hx0 (by omega) hnc
          have htold : ∀ y : Int, 0 ≤ y → y < cn → (hasB s.c y && toldB s.l s.al y) = s.l.contains y := fun y h0 h1 => by
            rw [hasB_iff.2 ⟨h0, by omega⟩, hal]
            rfl
          have HTO := Lib.hid htold
          have HMI := Lib.hid hmi
          have HIL := Lib.hid hil
          have HCN := Lib.hid hcn
          obtain ⟨i0, hi0, hz0, hz1, hz2⟩ := info_parts A3
          have hcn64 : cn ≤ 64 := by omega
          clear hm hh ht e hri hlen hnc hal hmi hil htold hcn
          go_enter Try.func23, Try.ntmps23
          go_wp2_with (fail)
          refine (refMay_any s.c s.m p cap s.l s.al _ (H.out.step K.below) (by omega)).mono ?_
          rintro e w1 ⟨rfl, hb1⟩
          rw [HM.out]
          have K2 := K.step hb1
          have hc2 := K2.cellsA
          clear hb1 K
          go_wp2_with (fail)
          refine (refHas_is HT.out p cap _ (H.out.step K2.below) (by omega)).mono ?_
          rintro e w2 ⟨rfl, hb2⟩
          have K3 := K2.step hb2
          have hc3 := K3.cellsA
          have hltA := lt_of_block K3.a
          have hltB := lt_of_block K3.b
          have hbo := balloc w2 (.cells #[.int .i64 s.c, .int .i64 s.m, .slice none 0 0, .bool false] 35)
          have R : RSt w (sval s p cap) w2.heap.size #[.int .i64 s.c, .int .i64 s.m, .slice none 0 0, .bool false] (w2.alloc (.cells #[.int .i64 s.c, .int .i64 s.m, .slice none 0 0, .bool false] 35)) := ⟨K3.step hbo, heap_alloc_new w2 _, by omega⟩
          have hcA := R.h2.cellsA
          clear hb2 hc2 K2 hbo K3
          go_wp2_with (fail)
          generalize w2.heap.size = o at R hcA ⊢
          generalize World.alloc _ _ = w3 at R hcA ⊢
          go_loopw [7] (fun i wr => ∃ (k : Nat) (q : Option Addr) (cq : Nat), k ≤ cn ∧ i = .int .i64 k ∧ wr.ownsRow (o + 1) 3 1 (.slice q (moreL s.l x k).length cq) (moreL s.l x k).length (ints (moreL s.l x k)) ∧ RSt w (sval s p cap) o #[.int .i64 s.c, .int .i64 s.m, .slice q (moreL s.l x k).length cq, .bool false] wr) (fun i _ => cn - (intOf i).toNat)
          case atStart => exact ⟨0, none, 0, Nat.zero_le _, rfl, World.ownsRow_nil _ _ _ _, R⟩
          case round =>
            obtain ⟨k, q, cq, hk, rfl, hown, R3⟩ := hrel
            have HW := Lib.hid hown
            have hcA3 := R3.h2.cellsA
            clear hown R hcA hc3
            have hkc : decide ((k : Int) < s.c) = decide (k < cn) := by
              rw [HCN.out]
              simp
            by_cases hlt : k < cn
            · have hkt : decide ((k : Int) < s.c) = true := by rw [hkc]; simpa using hlt
              clear hkc
              have hto := HTO.out k (by omega) (by omega)
              have hll := moreL_len s.l x k
              have hco3 : ∀ i, wr.cell? ⟨o, i, none⟩ = (#[.int .i64 s.c, .int .i64 s.m, .slice q (moreL s.l x k).length cq, .bool false] : Array Value)[i]? := fun i => blk_cell R3.out i
              have hlo := lt_of_block R3.out
              rcases Bool.eq_false_or_eq_true ((k : Int) == x) with hkx | hkx
              · have HE : Hid (moreL s.l x (k + 1) = moreL s.l x k ++ [(k : Int)]) := Lib.hid (canon_succ_yes (by rw [hkx]; rfl))
                clear hto
                go_wp2_with (at_builtin; refine wpList_append_lies _ rfl (.tmp 54) (.tmp 56) 22 rfl (o + 1) 3 i0 (.int .i64 0) 1 8 Try.underlying22 hi0 hz0 hz1 hz2 rfl (by decide) _ (moreL s.l x k).length (ints (moreL s.l x k)) rfl (HW.out.alloc _) ⟨wr.heap.size, 0, none⟩ 1 1 [.int .i64 k] rfl rfl ?c1 ?c2 (by decide) ?c3 ?c4 ?c5 _ rfl ?_)
                case c1 => intro j u hj; cases j <;> simp at hj; subst hj; exact World.cell?_alloc_mark wr #[.int .i64 k] 3 (0, 0) 0
                case c2 => simp [Value.oneCell']
                case c3 => simp only [maxLen]; omega
                case c4 => omega
                case c5 => simp; omega
                intro g' cap' w5 hown5 hgrow hat hlt5
                have hb5 : Below (o + 1) wr w5 := ((Below.refl _ _).alloc (by omega) (.cells #[.int .i64 k] 3)).grown hgrow (by simp; omega) (fun q hq => (HW.out.lt q hq).1)
                have R5 := R3.past hb5
                have hco5 : ∀ i, w5.cell? ⟨o, i, none⟩ = (#[.int .i64 s.c, .int .i64 s.m, .slice q (moreL s.l x k).length cq, .bool false] : Array Value)[i]? := fun i => blk_cell R5.out i
                have hfo5 := blk_free R5.out 2
                have R6 : RSt w (sval s p cap) o #[.int .i64 s.c, .int .i64 s.m, .slice (some ⟨g', 0, none⟩) ((moreL s.l x k).length + 1) cap', .bool false] (w5.setCell ⟨o, 2, none⟩ (.slice (some ⟨g', 0, none⟩) ((moreL s.l x k).length + 1) cap')) := R5.set 2 _
                have hown6 := own_block (w' := w5.setCell ⟨o, 2, none⟩ (.slice (some ⟨g', 0, none⟩) ((moreL s.l x k).length + 1) cap')) hown5 fun q hq => heap_setCell_other _ _ _ _ (by have := (hown5.lt q hq).1; simp only; omega)
                have HW6 := Lib.hid hown6
                clear hown5 hgrow hat hb5 hco3 hown6
                go_wp2
                go_roundw
                case rel =>
                  have hel : (moreL s.l x (k + 1)).length = (moreL s.l x k).length + 1 := by rw [HE.out]; simp
                  refine ⟨k + 1, some ⟨g', 0, none⟩, cap', by omega, by go_num, ?_, ?_⟩
                  · rw [hel, HE.out]
                    have := HW6.out
                    simpa using this
                  · rw [hel]
                    exact R6
                case measure => simp [intOf]; omega
              · rcases Bool.eq_false_or_eq_true (s.l.contains (k : Int)) with hkl | hkl
                · have HE : Hid (moreL s.l x (k + 1) = moreL s.l x k ++ [(k : Int)]) := Lib.hid (canon_succ_yes (by rw [hkl]; simp))
                  have HTK := Lib.hid (hto.trans hkl)
                  clear hto hkl hco3
                  go_wp2_with (fail)
                  refine (refHas_is HTK.out p cap _ (H.out.step R3.h2.below) (by omega)).mono ?_
                  rintro e w4 ⟨rfl, hb4⟩
                  have R4 := R3.step hb4
                  have hco4 : ∀ i, w4.cell? ⟨o, i, none⟩ = (#[.int .i64 s.c, .int .i64 s.m, .slice q (moreL s.l x k).length cq, .bool false] : Array Value)[i]? := fun i => blk_cell R4.out i
                  have HW4 := Lib.hid (own_block HW.out fun q hq => hb4.block q (HW.out.lt q hq).2)
                  have hlo4 := lt_of_block R4.out
                  clear hb4 hcA3 R3 HW
                  go_wp2_with (at_builtin; refine wpList_append_lies _ rfl (.tmp 54) (.tmp 56) 22 rfl (o + 1) 3 i0 (.int .i64 0) 1 8 Try.underlying22 hi0 hz0 hz1 hz2 rfl (by decide) _ (moreL s.l x k).length (ints (moreL s.l x k)) rfl (HW4.out.alloc _) ⟨w4.heap.size, 0, none⟩ 1 1 [.int .i64 k] rfl rfl ?c1 ?c2 (by decide) ?c3 ?c4 ?c5 _ rfl ?_)
                  case c1 => intro j u hj; cases j <;> simp at hj; subst hj; exact World.cell?_alloc_mark w4 #[.int .i64 k] 3 (0, 0) 0
                  case c2 => simp [Value.oneCell']
                  case c3 => simp only [maxLen]; omega
                  case c4 => omega
                  case c5 => simp; omega
                  intro g' cap' w5 hown5 hgrow hat hlt5
                  have hb5 : Below (o + 1) w4 w5 := ((Below.refl _ _).alloc (by omega) (.cells #[.int .i64 k] 3)).grown hgrow (by simp; omega) (fun q hq => (HW4.out.lt q hq).1)
                  have R5 := R4.past hb5
                  have hco5 : ∀ i, w5.cell? ⟨o, i, none⟩ = (#[.int .i64 s.c, .int .i64 s.m, .slice q (moreL s.l x k).length cq, .bool false] : Array Value)[i]? := fun i => blk_cell R5.out i
                  have hfo5 := blk_free R5.out 2
                  have R6 : RSt w (sval s p cap) o #[.int .i64 s.c, .int .i64 s.m, .slice (some ⟨g', 0, none⟩) ((moreL s.l x k).length + 1) cap', .bool false] (w5.setCell ⟨o, 2, none⟩ (.slice (some ⟨g', 0, none⟩) ((moreL s.l x k).length + 1) cap')) := R5.set 2 _
                  have hown6 := own_block (w' := w5.setCell ⟨o, 2, none⟩ (.slice (some ⟨g', 0, none⟩) ((moreL s.l x k).length + 1) cap')) hown5 fun q hq => heap_setCell_other _ _ _ _ (by have := (hown5.lt q hq).1; simp only; omega)
                  have HW6 := Lib.hid hown6
                  clear hown5 hgrow hat hb5 hco4 hown6
                  go_wp2
                  go_roundw
                  case rel =>
                    have hel : (moreL s.l x (k + 1)).length = (moreL s.l x k).length + 1 := by rw [HE.out]; simp
                    refine ⟨k + 1, some ⟨g', 0, none⟩, cap', by omega, by go_num, ?_, ?_⟩
                    · rw [hel, HE.out]
                      have := HW6.out
                      simpa using this
                    · rw [hel]
                      exact R6
                  case measure => simp [intOf]; omega
                · have HE : Hid (moreL s.l x (k + 1) = moreL s.l x k) := Lib.hid (canon_succ_no (by rw [hkx, hkl]; rfl))
                  have HTK := Lib.hid (hto.trans hkl)
                  clear hto hkl hco3
                  go_wp2_with (fail)
                  refine (refHas_is HTK.out p cap _ (H.out.step R3.h2.below) (by omega)).mono ?_
                  rintro e w4 ⟨rfl, hb4⟩
                  have R4 := R3.step hb4
                  have HW4 := Lib.hid (own_block HW.out fun q hq => hb4.block q (HW.out.lt q hq).2)
                  clear hb4 hcA3 R3 HW
                  go_wp2
                  go_roundw
                  case rel => exact ⟨k + 1, q, cq, by omega, by go_num, by rw [HE.out]; exact HW4.out, by rw [HE.out]; exact R4⟩
                  case measure => simp [intOf]; omega
            · have hkf : decide ((k : Int) < s.c) = false := by rw [hkc]; simpa using hlt
              have hke : k = cn := by omega
              have hkn : ¬ (k : Int) < s.c := by have := HCN.out; omega
              subst hke
              clear hkc
              obtain ⟨_, _, e1, hin⟩ := own_in HW.out
              simp only [Value.slice.injEq, true_and] at e1
              obtain ⟨rfl, rfl⟩ := e1
              have HI := Lib.hid hin
              have hco : ∀ i, wr.cell? ⟨o, i, none⟩ = (#[.int .i64 s.c, .int .i64 s.m, .slice q (moreL s.l x k).length cq, .bool false] : Array Value)[i]? := fun i => blk_cell R3.out i
              clear hin
              have hbg := R3.big
              have hqb : ∀ a, q = some a → o + 1 ≤ a.block := fun a ha => (HW.out.lt a.block (by rw [ha]; rfl)).1
              go_wp2_with ((with_reducible refine wpList_store_row (o := ⟨none, _, _, _, _, _⟩) rfl 35 (.tmp 4) (.tmp 59) rfl (w.heap.size + 1) #[.int .i64 s.c, .int .i64 s.m, .slice q (moreL s.l x k).length cq, .bool false] ?sx ?sy 35 zc ?sg ?si ?so ?s1 ?_); (case sx => rfl); (case sy => rfl); (case sg => exact R3.h2.b); (case si => kernel_rfl); (case so => rfl); (case s1 => kernel_rfl))
              have hin := HI.out
              rw [HMI.out] at hin
              exact gaveR_ret (s := ⟨s.c, s.m, insAt s.l (less s.l x) x, false⟩) (congrArg List.length HMI.out.symm) Try.results23 rfl rfl rfl (setRow_heap _ _ _ _ _ _ R3.h2.b) (hin.row _ (fun a ha => by have := hqb a ha; omega) _) (below_setRow R3.h2.below (by omega) _) p s.l (.inr (.inr fun a ha => by have := hqb a ha; omega))
    · have e : addS s x = (⟨0, 0, [], false⟩, 5) := by unfold addS St.may; rw [if_pos hm, if_neg (by rw [hh]; simp)]; rfl
      rw [e]
      have hd : decide (x < 0) = true ∨ (decide (x < 0) = false ∧ decide (s.c ≤ x) = true) := by
        simp [hasB] at hh
        simp
        omega
      clear hm hh e hri
      rcases hd with hd | ⟨hd, hd2⟩
      all_goals
        go_enter Try.func23, Try.ntmps23
        go_wp2_with (fail)
        refine (refMay_any s.c s.m p cap s.l s.al _ (H.out.step K.below) (by omega)).mono ?_
        rintro e w1 ⟨rfl, hb1⟩
        rw [HM.out]
        have K2 := K.step hb1
        have hc2 := K2.cellsA
        clear hb1 K
        go_wp2_with ((with_reducible refine wpList_store_row (o := ⟨none, _, _, _, _, _⟩) rfl 35 (.tmp 4) (.tmp 20) rfl (w.heap.size + 1) zc ?sx ?sy 35 zc ?sg ?si ?so ?s1 ?_); (case sx => rfl); (case sy => rfl); (case sg => exact K2.b); (case si => kernel_rfl); (case so => rfl); (case s1 => kernel_rfl))
        exact gaveR_ret (s := ⟨0, 0, [], false⟩) rfl Try.results23 rfl rfl rfl (setRow_heap _ _ _ _ _ _ K2.b) (NumsIn.nil _ _) (below_setRow K2.below (by omega) _) p s.l (.inr (.inl rfl))
  · have HM := Lib.hid hm
    have e : addS s x = (⟨0, 0, [], false⟩, 1) := by unfold addS St.may; rw [if_neg (by rw [hm]; simp)]; rfl
    rw [e]
    clear hm e
    go_enter Try.func23, Try.ntmps23
    go_wp2_with (fail)
    refine (refMay_any s.c s.m p cap s.l s.al _ (H.out.step K.below) (by omega)).mono ?_
    rintro e w1 ⟨rfl, hb1⟩
    rw [HM.out]
    have K3 := K.step hb1
    clear hb1 K
    go_wp2_with ((with_reducible refine wpList_store_row (o := ⟨none, _, _, _, _, _⟩) rfl 35 (.tmp 4) (.tmp 11) rfl (w.heap.size + 1) zc ?sx ?sy 35 zc ?sg ?si ?so ?s1 ?_); (case sx => rfl); (case sy => rfl); (case sg => exact K3.b); (case si => kernel_rfl); (case so => rfl); (case s1 => kernel_rfl))
    exact gaveR_ret (s := ⟨0, 0, [], false⟩) rfl Try.results23 rfl rfl rfl (setRow_heap _ _ _ _ _ _ K3.b) (NumsIn.nil _ _) (below_setRow K3.below (by omega) _) p s.l (.inr (.inl rfl))
theorem refAdd_any (s : St) (p : Option Addr) (cap : Nat) (x : Int) (w : World) (h : NumsIn w p s.l) (hl : s.l.length ≤ 5000) :
    Calls Try.prog 23 #[.agg (sval s p cap), .int .i64 x] w (GaveR w (addS s x).1 (addS s x).2) :=
  (refAdd_apart s p cap x w h hl).mono fun _ _ ⟨q, c, e, h1, h2, _⟩ => ⟨q, c, e, h1, h2⟩

end Go.Proofs.Ytfnemldjhfcalaa
