/-
  The document's May, New, and its messages.
-/
import Derived.Test.YtfnemldjhfcalaaTbH
import Derived.Test.YtfnemldjhfcalaaShU
namespace Go.Proofs.Ytfnemldjhfcalaa
open Go Go.RowKit Go.Sort

theorem rset_is {s : St} {b : Bool} (h : s.may = b) (p : Option Addr) (cap : Nat) (w : World) (hi : NumsIn w p s.l) (hl : s.l.length ≤ 9223372036854775807) :
    Calls Try.prog 28 #[.agg (sval s p cap)] w fun e w' => e = .returned (.bool b) ∧ Below w.heap.size w w' := by
  subst h
  exact refMay_any s.c s.m p cap s.l s.al w hi hl

set_option maxHeartbeats 1000000 in
theorem rmay_any (e : En) (p : Option Addr) (cap : Nat) (w : World) (hl : e.s.l.length ≤ 9223372036854775807) (h : NumsIn w p e.s.l) :
    Calls Try.prog 14 #[ev e p cap] w fun r w' => r = .returned (.bool e.may) ∧ Below w.heap.size w w' := by
  have K := Kp.box w (ecells e p cap) 37
  have hc := K.1
  have H := Lib.hid (h.step K.2.2)
  clear h
  have hd : (e.s.may = false ∧ e.may = false) ∨ (e.s.may = true ∧ decide (-1 ≤ e.ow) = false ∧ e.may = false) ∨ (e.s.may = true ∧ decide (-1 ≤ e.ow) = true ∧ decide (e.ow < e.s.c) = false ∧ e.may = false) ∨ (e.s.may = true ∧ decide (-1 ≤ e.ow) = true ∧ decide (e.ow < e.s.c) = true ∧ e.may = true) := by
    rcases Bool.eq_false_or_eq_true e.s.may with h1 | h1
    · have hc := (may_bounds h1).1
      simp only [En.may, h1, hasB, Bool.true_and, decide_eq_true_eq, decide_eq_false_iff_not, Bool.or_eq_false_iff, Bool.or_eq_true, Bool.and_eq_true, Bool.and_eq_false_iff, beq_iff_eq, beq_eq_false_iff_ne, true_and]
      have : (-1 : Int) ≤ e.ow ∨ ¬ (-1 : Int) ≤ e.ow := by omega
      omega
    · left
      exact ⟨h1, by simp [En.may, h1]⟩
  rcases hd with ⟨h1, h2⟩ | ⟨h1, h3, h2⟩ | ⟨h1, h3, h4, h2⟩ | ⟨h1, h3, h4, h2⟩
  all_goals
    have H1 := Lib.hid h1
    have H2 := Lib.hid h2
    clear h1 h2
    go_enter Try.func14, Try.ntmps14
    go_wp2_with (go_at_call 28; refine (rset_is H1.out p cap _ H.out hl).mono ?_; rintro _ w1 ⟨rfl, hb1⟩; have K2 := K.step hb1; have hc2 := K2.1; clear hc hb1)
    go_ret
    exact ⟨ret_bool H2.out.symm, K2.2.2⟩
theorem rmay_is {e : En} {b : Bool} (h : e.may = b) (p : Option Addr) (cap : Nat) (w : World) (hl : e.s.l.length ≤ 9223372036854775807) (hn : NumsIn w p e.s.l) :
    Calls Try.prog 14 #[ev e p cap] w fun r w' => r = .returned (.bool b) ∧ Below w.heap.size w w' := by
  subst h
  exact rmay_any e p cap w hl hn

theorem entR_ret {w wr : World} {e : En} {err : Int} {a : Act} {fn : Func} {g : Nat} {p : Option Addr} {cap : Nat} {t1 t2 : Tmp} (hres : fn.results = #[.cell t1 37, .tmp t2]) (hp : a.tmps.getD t1 undef = .pointer (some ⟨g, 0, none⟩)) (hq : a.tmps.getD t2 undef = .int .i64 err) (hd : a.defers = [])
    (hg : wr.heap[g]? = some (.cells (ecells e p cap) 37 (0, 0))) (hn : NumsIn wr p e.s.l) (hb : Below w.heap.size w wr) : bodyPost Try.prog fn (GaveN w e err) Exit.ret a wr :=
  bodyPost_ret (v := .tuple #[.agg (ecells e p cap), a.tmps.getD t2 undef]) (results_cell_two hres _ _ g 37 _ (0, 0) _ hp hg Try.underlying37 rfl (by kernel_rfl)) hd ⟨p, cap, by rw [hq], hn, hb⟩

theorem newE_may (c m : Int) : (En.mk (-1) ⟨c, m, [], false⟩).may = mayB c m [] false := by simp [En.may, St.may]
set_option maxHeartbeats 1000000 in
theorem rnew_any (c m : Int) (w : World) : Calls Try.prog 8 #[.int .i64 c, .int .i64 m] w (GaveN w (newE c m).1 (newE c m).2) := by
  have K := H2.box w zec (ecells ⟨-1, ⟨c, m, [], false⟩⟩ none 0) 37 37
  have hcB := K.cellsB
  rcases Bool.eq_false_or_eq_true (mayB c m [] false) with h | h
  · have e1 : newE c m = (⟨-1, ⟨c, m, [], false⟩⟩, 0) := by unfold newE; rw [if_pos h]
    have HM : Hid ((En.mk (-1) ⟨c, m, [], false⟩).may = true) := Lib.hid ((newE_may c m).trans h)
    rw [e1]
    clear e1 h
    go_enter Try.func8, Try.ntmps8
    go_wp2_with (first
      | (go_at_call 14; refine (rmay_is HM.out none 0 _ (by simp) (NumsIn.nil _ _)).mono ?_; rintro _ w1 ⟨rfl, hb1⟩; have K2 := K.step hb1; have hcB2 := K2.cellsB; clear hcB hb1 K)
      | ((with_reducible refine wpList_store_row (o := ⟨none, _, _, _, _, _⟩) rfl 37 (.tmp 4) (.tmp 15) rfl w.heap.size #[.int .i64 (-1), .int .i64 c, .int .i64 m, .slice none 0 0, .bool false] ?sx ?sy 37 zec ?sg ?si ?so ?s1 ?_); (case sx => rfl); (case sy => rfl); (case sg => exact K2.a); (case si => kernel_rfl); (case so => rfl); (case s1 => kernel_rfl)))
    exact entR_ret (e := ⟨-1, ⟨c, m, [], false⟩⟩) Try.results8 rfl rfl rfl (setRow_heap _ _ _ _ _ _ K2.a) (NumsIn.nil _ _) (below_setRow K2.below (Nat.le_refl _) _)
  · have e1 : newE c m = (zE, 1) := by unfold newE; rw [if_neg (by rw [h]; simp)]
    have HM : Hid ((En.mk (-1) ⟨c, m, [], false⟩).may = false) := Lib.hid ((newE_may c m).trans h)
    rw [e1]
    clear e1 h
    go_enter Try.func8, Try.ntmps8
    go_wp2_with (first
      | (go_at_call 14; refine (rmay_is HM.out none 0 _ (by simp) (NumsIn.nil _ _)).mono ?_; rintro _ w1 ⟨rfl, hb1⟩; have K2 := K.step hb1; have hcB2 := K2.cellsB; clear hcB hb1 K)
      | ((with_reducible refine wpList_store_row (o := ⟨none, _, _, _, _, _⟩) rfl 37 (.tmp 4) (.tmp 14) rfl w.heap.size zec ?sx ?sy 37 zec ?sg ?si ?so ?s1 ?_); (case sx => rfl); (case sy => rfl); (case sg => exact K2.a); (case si => kernel_rfl); (case so => rfl); (case s1 => kernel_rfl)))
    exact entR_ret (e := zE) (p := none) (cap := 0) Try.results8 rfl rfl rfl (setRow_heap _ _ _ _ _ _ K2.a) (NumsIn.nil _ _) (below_setRow K2.below (Nat.le_refl _) _)

/-- A message of the document's home. -/
abbrev rcells (m : Msg) (kd to wh ac ow : Int) (v : W8) : Array Value := #[.int .i64 kd, .int .i64 m.ln, .int .i64 m.to, .int .i64 to, .int .i64 wh, .int .i64 ac, .int .i64 ow, .int .i64 v.w0, .int .i64 v.w1, .int .i64 v.w2, .int .i64 v.w3, .int .i64 v.w4, .int .i64 v.w5, .int .i64 v.w6, .int .i64 v.w7]
set_option maxHeartbeats 1000000 in
theorem rmsg_any (m : Msg) (kd to wh ac ow : Int) (v : W8) (w : World) :
    Calls Try.prog 24 #[mv m, .int .i64 kd, .int .i64 to, .int .i64 wh, .int .i64 ac, .int .i64 ow, .agg (wcells v)] w fun r w' => r = .returned (.agg (rcells m kd to wh ac ow v)) ∧ Below w.heap.size w w' := by
  have K := (H2.box w (mcells m) (wcells v) 30 28)
  have K3 := K.step (balloc _ (.cells zm 30))
  have hg3 := heap_alloc_new ((w.alloc (.cells (mcells m) 30)).alloc (.cells (wcells v) 28)) (.cells zm 30)
  have hz : ((w.alloc (.cells (mcells m) 30)).alloc (.cells (wcells v) 28)).heap.size = w.heap.size + 1 + 1 := by simp
  rw [hz] at hg3
  have hcA := K3.cellsA
  have hcB := K3.cellsB
  clear hz K
  go_enter Try.func24, Try.ntmps24
  go_wp2_with ((with_reducible refine wpList_store_row (o := ⟨none, _, _, _, _, _⟩) rfl 30 (.tmp 14) (.tmp 25) rfl (w.heap.size + 1 + 1) (rcells m kd to wh ac ow v) ?sx ?sy 30 zm ?sg ?si ?so ?s1 ?_); (case sx => rfl); (case sy => rfl); (case sg => exact hg3); (case si => kernel_rfl); (case so => rfl); (case s1 => kernel_rfl))
  exact bodyPost_ret (v := .agg (rcells m kd to wh ac ow v)) (results_cell_row Try.results24 _ _ (w.heap.size + 1 + 1) 30 _ (0, 0) _ rfl (setRow_heap _ _ _ _ _ _ hg3) Try.underlying30 rfl (by kernel_rfl)) rfl ⟨rfl, below_setRow K3.below (by omega) _⟩

end Go.Proofs.Ytfnemldjhfcalaa
