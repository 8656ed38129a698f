/-
  The smallest functions of a home's table, one contract each.
-/
import Derived.Test.YtfnemldjhfcalaaTbM
import Derived.Laws.EntriesVeiled
namespace Go.Proofs.Ytfnemldjhfcalaa
open Go Go.RowKit Go.Sort

theorem tcore_any (e : En) (p : Option Addr) (cap : Nat) (x : Int) (w : World) :
    Calls Try.prog 19 #[ev e p cap, .int .i64 x] w fun r w' => r = .returned (.bool (hasB e.s.c x)) ∧ Below w.heap.size w w' := by
  by_cases h : 0 ≤ x
  · go_enter Try.func19, Try.ntmps19
    go_wp2
    go_ret
    exact ⟨ret_bool (by simp [hasB, h]), balloc _ _⟩
  · have h' : decide (0 ≤ x) = false := by simpa using h
    clear h
    go_enter Try.func19, Try.ntmps19
    go_wp2
    go_ret
    exact ⟨ret_bool (by simp [hasB, h']), balloc _ _⟩

set_option maxHeartbeats 1000000 in
theorem tmay_any (e : En) (p : Option Addr) (cap : Nat) (w : World) (hl : e.s.l.length ≤ 5000) (h : NumsIn w p e.s.l) :
    Calls Try.prog 13 #[ev e p cap] w fun r w' => r = .returned (.bool e.may) ∧ Below w.heap.size w w' := by
  have K := Kp.box w (ecells e p cap) 26
  have hc := K.1
  have H := Lib.hid (h.step K.2.2)
  clear h
  rcases Bool.eq_false_or_eq_true e.s.may with h1 | h1
  · have H1 := Lib.hid h1
    rcases Bool.eq_false_or_eq_true (e.ow == -1) with h2 | h2
    · have HE : Hid (e.may = true) := Lib.hid (by unfold En.may; rw [h1, h2]; rfl)
      clear h1
      go_enter Try.func13, Try.ntmps13
      go_wp2_with (go_at_call 27; refine (may_is H1.out p cap _ H.out hl).mono ?_; rintro _ w1 ⟨rfl, hb1⟩; have K2 := K.step hb1; have hc2 := K2.1; clear hc hb1)
      go_ret
      exact ⟨ret_bool HE.out.symm, K2.2.2⟩
    · have HE : Hid (e.may = hasB e.s.c e.ow) := Lib.hid (by unfold En.may; rw [h1, h2]; simp)
      clear h1
      go_enter Try.func13, Try.ntmps13
      go_wp2_with (first
        | (go_at_call 27; refine (may_is H1.out p cap _ H.out hl).mono ?_; rintro _ w1 ⟨rfl, hb1⟩; have K2 := K.step hb1; have hc2 := K2.1; clear hc hb1)
        | (go_at_call 19; refine (tcore_any e p cap e.ow _).mono ?_; rintro _ w2 ⟨rfl, hb2⟩; have K3 := K2.step hb2; clear hc2 hb2))
      go_ret
      exact ⟨ret_bool HE.out.symm, K3.2.2⟩
  · have H1 := Lib.hid h1
    have HE : Hid (e.may = false) := Lib.hid (by unfold En.may; rw [h1]; rfl)
    clear h1
    go_enter Try.func13, Try.ntmps13
    go_wp2_with (go_at_call 27; refine (may_is H1.out p cap _ H.out hl).mono ?_; rintro _ w1 ⟨rfl, hb1⟩; have K2 := K.step hb1; have hc2 := K2.1; clear hc hb1)
    go_ret
    exact ⟨ret_bool HE.out.symm, K2.2.2⟩

theorem targets_nil (s : St) (p : Option Addr) (cap : Nat) (w : World) (h : NumsIn w p s.l) (hl : s.l.length ≤ 5000) :
    Calls Try.prog 51 #[.agg (sval s p cap), .slice none 0 0] w (GaveL w (targetsS s [])) :=
  targets_any s p cap none 0 [] w h (NumsIn.nil _ _) hl (by simp)

set_option maxHeartbeats 1000000 in
theorem free_any (e : En) (p : Option Addr) (cap : Nat) (w : World) (hl : e.s.l.length ≤ 5000) (h : NumsIn w p e.s.l) :
    Calls Try.prog 46 #[ev e p cap] w fun r w' => r = .returned (.bool e.free) ∧ Below w.heap.size w w' := by
  have K := Kp.box w (ecells e p cap) 26
  have hc := K.1
  have H := Lib.hid (h.step K.2.2)
  clear h
  rcases Bool.eq_false_or_eq_true (e.ow == -1) with h2 | h2
  · have HE : Hid (e.free = (((targetsS e.s []).length : Int) == 0)) := Lib.hid (by unfold En.free; rw [h2]; rfl)
    go_enter Try.func46, Try.ntmps46
    go_wp2_with (go_at_call 51; refine (targets_nil e.s p cap _ H.out hl).mono ?_; rintro _ w1 ⟨pt, ct, rfl, -, hb1⟩; have K2 := K.step hb1; clear hc hb1)
    go_ret
    exact ⟨ret_bool HE.out.symm, K2.2.2⟩
  · have HE : Hid (e.free = false) := Lib.hid (by unfold En.free; rw [h2]; rfl)
    go_enter Try.func46, Try.ntmps46
    go_wp2
    go_ret
    exact ⟨ret_bool HE.out.symm, K.2.2⟩
theorem free_is {e : En} {b : Bool} (hf : e.free = b) (p : Option Addr) (cap : Nat) (w : World) (h : NumsIn w p e.s.l) (hl : e.s.l.length ≤ 5000) :
    Calls Try.prog 46 #[ev e p cap] w fun r w' => r = .returned (.bool b) ∧ Below w.heap.size w w' := by
  subst hf
  exact free_any e p cap w hl h

set_option maxHeartbeats 1000000 in
theorem others_fresh (e : En) (p : Option Addr) (cap : Nat) (m : Msg) (v : W8) (w : World) (hl : e.s.l.length ≤ 5000) (h : NumsIn w p e.s.l) :
    Calls Try.prog 48 #[qv e p cap m v] w (GaveF w (e.others m.fr)) := by
  have K := Kp.box w (qcells e p cap m v) 68
  have hc := K.1
  have K1 := K.step (balloc _ (.cells #[.int .i64 m.fr, .int .i64 e.ow] 3))
  have H := Lib.hid (h.step K1.2.2)
  have hz : (w.alloc (.cells (qcells e p cap m v) 68)).heap.size = w.heap.size + 1 := by simp
  have HN := Lib.hid (NumsIn.lit (w := w.alloc (.cells (qcells e p cap m v) 68)) (x := m.fr) (y := e.ow))
  rw [hz] at HN
  clear h hz
  go_enter Try.func48, Try.ntmps48
  go_wp2_with (go_at_call 51; refine (targets_fresh e.s p cap _ _ [m.fr, e.ow] _ H.out HN.out hl (by simp)).mono ?_; rintro _ w1 ⟨pt, ct, rfl, hi, hb1, hf1⟩; have K2 := K1.step hb1; clear hc)
  go_ret
  exact ⟨pt, ct, rfl, hi, K2.2.2, fun a ha => by have := hf1 a ha; simp at this; omega⟩

theorem others_any (e : En) (p : Option Addr) (cap : Nat) (m : Msg) (v : W8) (w : World) (hl : e.s.l.length ≤ 5000) (h : NumsIn w p e.s.l) :
    Calls Try.prog 48 #[qv e p cap m v] w (GaveL w (e.others m.fr)) :=
  (others_fresh e p cap m v w hl h).mono fun _ _ ⟨q, c, e, h1, h2, _⟩ => ⟨q, c, e, h1, h2⟩

/-! What is sent first, by kinds: function values in a struct. -/
abbrev fv (K : Nat) : Value := .func (.func K) #[] #[]
/-- A kind's rule: if nobody owns the line, if another does, if who asked does; and then. -/
def ruleT (k : Int) : Array Value :=
  if k = 1 then #[fv 31, fv 32, .nilFunc, fv 33]
  else if k = 2 then #[fv 34, fv 35, fv 36, fv 37]
  else if k = 3 then #[fv 38, fv 38, fv 38, fv 39]
  else #[.nilFunc, .nilFunc, .nilFunc, .nilFunc]

theorem rule_ret {w wr : World} {a : Act} {fn : Func} {g : Nat} {t1 t2 : Tmp} {R : Array Value} {b : Bool} (hres : fn.results = #[.cell t1 63, .tmp t2]) (hp : a.tmps.getD t1 undef = .pointer (some ⟨g, 0, none⟩)) (hq : a.tmps.getD t2 undef = .bool b) (hd : a.defers = [])
    (hg : wr.heap[g]? = some (.cells R 63 (0, 0))) (hs : R.size = 4) (hb : Below w.heap.size w wr) : bodyPost Try.prog fn (fun r w' => r = .returned (.tuple #[.agg R, .bool b]) ∧ Below w.heap.size w w') Exit.ret a wr := by
  refine bodyPost_ret (v := .tuple #[.agg R, a.tmps.getD t2 undef]) (results_cell_two hres _ _ g 63 _ (0, 0) _ hp hg Try.underlying63 rfl ?_) hd ⟨by rw [hq], hb⟩
  rw [hs]
  kernel_rfl

set_option maxHeartbeats 1000000 in
theorem ruleOf_any (k : Int) (w : World) :
    Calls Try.prog 18 #[.int .i64 k] w fun r w' => r = .returned (.tuple #[.agg (ruleT k), .bool (isReq k)]) ∧ Below w.heap.size w w' := by
  have hg := heap_alloc_new w (.cells #[.nilFunc, .nilFunc, .nilFunc, .nilFunc] 63)
  have hb := balloc w (.cells #[.nilFunc, .nilFunc, .nilFunc, .nilFunc] 63)
  by_cases h1 : k = 1
  · subst h1
    rw [show ruleT 1 = #[fv 31, fv 32, .nilFunc, fv 33] from rfl, show isReq 1 = true from rfl]
    go_enter Try.func18, Try.ntmps18
    go_wp2_with ((with_reducible refine wpList_store_row (o := ⟨none, _, _, _, _, _⟩) rfl 63 (.tmp 2) (.tmp 7) rfl w.heap.size #[fv 31, fv 32, .nilFunc, fv 33] ?sx ?sy 63 #[.nilFunc, .nilFunc, .nilFunc, .nilFunc] ?sg ?si ?so ?s1 ?_); (case sx => rfl); (case sy => rfl); (case sg => exact hg); (case si => kernel_rfl); (case so => rfl); (case s1 => kernel_rfl))
    exact rule_ret Try.results18 rfl rfl rfl (setRow_heap _ _ _ _ _ _ hg) rfl (below_setRow hb (Nat.le_refl _) _)
  by_cases h2 : k = 2
  · subst h2
    clear h1
    rw [show ruleT 2 = #[fv 34, fv 35, fv 36, fv 37] from rfl, show isReq 2 = true from rfl]
    go_enter Try.func18, Try.ntmps18
    go_wp2_with ((with_reducible refine wpList_store_row (o := ⟨none, _, _, _, _, _⟩) rfl 63 (.tmp 2) (.tmp 10) rfl w.heap.size #[fv 34, fv 35, fv 36, fv 37] ?sx ?sy 63 #[.nilFunc, .nilFunc, .nilFunc, .nilFunc] ?sg ?si ?so ?s1 ?_); (case sx => rfl); (case sy => rfl); (case sg => exact hg); (case si => kernel_rfl); (case so => rfl); (case s1 => kernel_rfl))
    exact rule_ret Try.results18 rfl rfl rfl (setRow_heap _ _ _ _ _ _ hg) rfl (below_setRow hb (Nat.le_refl _) _)
  by_cases h3 : k = 3
  · subst h3
    clear h1 h2
    rw [show ruleT 3 = #[fv 38, fv 38, fv 38, fv 39] from rfl, show isReq 3 = true from rfl]
    go_enter Try.func18, Try.ntmps18
    go_wp2_with ((with_reducible refine wpList_store_row (o := ⟨none, _, _, _, _, _⟩) rfl 63 (.tmp 2) (.tmp 13) rfl w.heap.size #[fv 38, fv 38, fv 38, fv 39] ?sx ?sy 63 #[.nilFunc, .nilFunc, .nilFunc, .nilFunc] ?sg ?si ?so ?s1 ?_); (case sx => rfl); (case sy => rfl); (case sg => exact hg); (case si => kernel_rfl); (case so => rfl); (case s1 => kernel_rfl))
    exact rule_ret Try.results18 rfl rfl rfl (setRow_heap _ _ _ _ _ _ hg) rfl (below_setRow hb (Nat.le_refl _) _)
  · have e1 : ruleT k = #[.nilFunc, .nilFunc, .nilFunc, .nilFunc] := by unfold ruleT; rw [if_neg h1, if_neg h2, if_neg h3]
    have q1 : (k == 1) = false := by simpa using h1
    have q2 : (k == 2) = false := by simpa using h2
    have q3 : (k == 3) = false := by simpa using h3
    have e2 : isReq k = false := by unfold isReq; rw [q1, q2, q3]; rfl
    rw [e1, e2]
    clear h1 h2 h3 e1 e2
    go_enter Try.func18, Try.ntmps18
    go_wp2_with ((with_reducible refine wpList_store_row (o := ⟨none, _, _, _, _, _⟩) rfl 63 (.tmp 2) (.tmp 14) rfl w.heap.size #[.nilFunc, .nilFunc, .nilFunc, .nilFunc] ?sx ?sy 63 #[.nilFunc, .nilFunc, .nilFunc, .nilFunc] ?sg ?si ?so ?s1 ?_); (case sx => rfl); (case sy => rfl); (case sg => exact hg); (case si => kernel_rfl); (case so => rfl); (case s1 => kernel_rfl))
    exact rule_ret Try.results18 rfl rfl rfl (setRow_heap _ _ _ _ _ _ hg) rfl (below_setRow hb (Nat.le_refl _) _)

/-- The one that is picked. -/
def firstF (R : Array Value) (e : En) (m : Msg) : Value := if e.ow = -1 then R.getD 0 .nilFunc else if e.ow = m.fr then R.getD 2 .nilFunc else R.getD 1 .nilFunc
set_option maxHeartbeats 1000000 in
theorem first_any (f0 f1 f2 f3 : Value) (e : En) (p : Option Addr) (cap : Nat) (m : Msg) (v : W8) (w : World) :
    Calls Try.prog 20 #[.agg #[f0, f1, f2, f3], qv e p cap m v] w fun r w' => r = .returned (firstF #[f0, f1, f2, f3] e m) ∧ Below w.heap.size w w' := by
  have HB := Lib.hid ((balloc w (.cells #[f0, f1, f2, f3] 63)).trans ((balloc _ (.cells (qcells e p cap m v) 68)).mono (by simp)))
  by_cases h1 : e.ow = -1
  · have e1 : firstF #[f0, f1, f2, f3] e m = f0 := by unfold firstF; rw [if_pos h1]; rfl
    rw [e1]
    have q1 : (e.ow == -1) = true := by simpa using h1
    clear h1 e1
    go_enter Try.func20, Try.ntmps20
    go_wp2
    go_ret
    exact ⟨rfl, HB.out⟩
  have q1 : (e.ow == -1) = false := by simpa using h1
  by_cases h2 : e.ow = m.fr
  · have e1 : firstF #[f0, f1, f2, f3] e m = f2 := by unfold firstF; rw [if_neg h1, if_pos h2]; rfl
    rw [e1]
    have q2 : (e.ow == m.fr) = true := by simpa using h2
    clear h1 h2 e1
    go_enter Try.func20, Try.ntmps20
    go_wp2
    go_ret
    exact ⟨rfl, HB.out⟩
  · have e1 : firstF #[f0, f1, f2, f3] e m = f1 := by unfold firstF; rw [if_neg h1, if_neg h2]; rfl
    rw [e1]
    have q2 : (e.ow == m.fr) = false := by simpa using h2
    clear h1 h2 e1
    go_enter Try.func20, Try.ntmps20
    go_wp2
    go_ret
    exact ⟨rfl, HB.out⟩

end Go.Proofs.Ytfnemldjhfcalaa
