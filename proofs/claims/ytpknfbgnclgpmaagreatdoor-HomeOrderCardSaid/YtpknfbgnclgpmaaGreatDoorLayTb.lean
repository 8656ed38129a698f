/-
  Several texts in one: TbM, TbA, TbB, TbC, TbD, TbE.
-/
import Derived.Test.YtpknfbgnclgpmaaGreatDoorLaySh
import Derived.Test.YtpknfbgnclgpmaaGreatDoorLayMs
import Derived.Laws.EntriesVeiled
import Derived.Deep.RegionHeld3
import Derived.Deep.MidRow
import Derived.Deep.AppendLies
import Derived.Deep.RegionLaw
import Derived.Lib.SliceRun

/-
  What a home does with a request, in plain words.
-/
namespace Go.Proofs.YtpknfbgnclgpmaaGreatDoor.Sh
open Go Go.RowKit Go.Sort

/-- What a home knows of a line: its owner, or -1, and its sharers. -/
structure En where
  ow : Int
  s : St
/-- Eight words. -/
structure W8 where
  w0 : Int
  w1 : Int
  w2 : Int
  w3 : Int
  w4 : Int
  w5 : Int
  w6 : Int
  w7 : Int
/-- What comes of a request: an entry, messages, and whether the memory is written. -/
structure Tn where
  e : En
  sent : List Msg
  wr : Bool

def zE : En := ⟨0, z0⟩
def zT : Tn := ⟨zE, [], false⟩
def En.may (e : En) : Bool := e.s.may && (e.ow == -1 || hasB e.s.c e.ow)
def En.free (e : En) : Bool := e.ow == -1 && (((targetsS e.s []).length : Int) == 0)
def newE (c m : Int) : En × Int := if mayB c m [] false then (⟨-1, ⟨c, m, [], false⟩⟩, 0) else (zE, 1)
/-- Who else may share the line. -/
def En.others (e : En) (r : Int) : List Int := targetsS e.s [r, e.ow]
/-- A message that is sent first, or then; its line and its sender are set when it is sent. -/
def bareM (kd to wh ac ow : Int) : Msg := ⟨kd, 0, 0, to, wh, ac, ow, 0, 0, 0, 0, 0, 0, 0, 0⟩
def fullM (kd to ac ow : Int) (v : W8) : Msg := ⟨kd, 0, 0, to, 0, ac, ow, v.w0, v.w1, v.w2, v.w3, v.w4, v.w5, v.w6, v.w7⟩
def readM (e : En) (m : Msg) (v : W8) : Msg := fullM 7 m.fr 0 (if e.free then 2 else 1) v
def fwdS (e : En) (m : Msg) : Msg := bareM 4 e.ow m.fr 0 0
def wrtM (e : En) (m : Msg) (v : W8) : Msg := fullM 7 m.fr (e.others m.fr).length 4 v
def fwdM (e : En) (m : Msg) : Msg := bareM 5 e.ow m.fr (e.others m.fr).length 0
def grtM (e : En) (m : Msg) : Msg := bareM 8 m.fr 0 (e.others m.fr).length 0
def ackM (m : Msg) : Msg := bareM 10 m.fr 0 0 0
def invM (m : Msg) (x : Int) : Msg := bareM 6 x m.fr 0 0
/-- As it is sent. -/
def sendM (m x : Msg) : Msg := ⟨x.kd, m.ln, m.to, x.to, x.wh, x.ac, x.ow, x.w0, x.w1, x.w2, x.w3, x.w4, x.w5, x.w6, x.w7⟩
def Tn.send (t : Tn) (m x : Msg) : Tn := ⟨t.e, t.sent ++ [sendM m x], t.wr⟩
def shareT (e : En) (m : Msg) (t : Tn) : Tn := if e.free then ⟨⟨m.fr, t.e.s⟩, t.sent, t.wr⟩ else ⟨⟨t.e.ow, (addS e.s m.fr).1⟩, t.sent, t.wr⟩
def takeT (e : En) (m : Msg) (t : Tn) : Tn := ⟨⟨m.fr, (newS e.s.c e.s.m).1⟩, t.sent ++ (e.others m.fr).map (fun x => sendM m (invM m x)), t.wr⟩
def leaveT (e : En) (m : Msg) (t : Tn) : Tn := if e.ow = m.fr then ⟨⟨-1, t.e.s⟩, t.sent, true⟩ else t
/-- What there is ahead of what a turn sends. -/
def baseT (e : En) : Tn := ⟨e, [], false⟩
def isReq (k : Int) : Bool := k == 1 || (k == 2 || k == 3)
def goodQ (e : En) (m : Msg) : Bool := e.may && (isReq m.kd && hasB e.s.c m.fr)
def nextT (e : En) (m : Msg) (v : W8) : Tn × Int :=
  if goodQ e m = false then (zT, 1)
  else if m.kd = 1 then (if e.ow = -1 then (shareT e m ((baseT e).send m (readM e m v)), 0) else if e.ow = m.fr then (zT, 7) else (shareT e m ((baseT e).send m (fwdS e m)), 0))
  else if m.kd = 2 then (if e.ow = -1 then (takeT e m ((baseT e).send m (wrtM e m v)), 0) else if e.ow = m.fr then (takeT e m ((baseT e).send m (grtM e m)), 0) else (takeT e m ((baseT e).send m (fwdM e m)), 0))
  else (leaveT e m ((baseT e).send m (ackM m)), 0)

theorem good_all {e : En} {m : Msg} (h : goodQ e m = true) : e.may = true ∧ isReq m.kd = true ∧ hasB e.s.c m.fr = true := by
  simpa [goodQ] using h
theorem may_parts {e : En} (h : e.may = true) : e.s.may = true ∧ -1 ≤ e.ow ∧ e.ow < e.s.c := by
  simp only [En.may, Bool.and_eq_true, Bool.or_eq_true, beq_iff_eq, hasB, decide_eq_true_eq] at h
  have h1 := h.1
  obtain ⟨hc, -⟩ := may_bounds h1
  refine ⟨h1, ?_, ?_⟩ <;> rcases h.2 with h2 | h2 <;> omega

abbrev ecells (e : En) (p : Option Addr) (cap : Nat) : Array Value := #[.int .i64 e.ow, .int .i64 e.s.c, .int .i64 e.s.m, .slice p e.s.l.length cap, .bool e.s.al]
abbrev ev (e : En) (p : Option Addr) (cap : Nat) : Value := .agg (ecells e p cap)
abbrev wcells (v : W8) : Array Value := #[.int .i64 v.w0, .int .i64 v.w1, .int .i64 v.w2, .int .i64 v.w3, .int .i64 v.w4, .int .i64 v.w5, .int .i64 v.w6, .int .i64 v.w7]
/-- An asking's cells: an entry, a request, words. -/
abbrev qcells (e : En) (p : Option Addr) (cap : Nat) (m : Msg) (v : W8) : Array Value :=
  #[.int .i64 e.ow, .int .i64 e.s.c, .int .i64 e.s.m, .slice p e.s.l.length cap, .bool e.s.al,
    .int .i64 m.kd, .int .i64 m.ln, .int .i64 m.fr, .int .i64 m.to, .int .i64 m.wh, .int .i64 m.ac, .int .i64 m.ow, .int .i64 m.w0, .int .i64 m.w1, .int .i64 m.w2, .int .i64 m.w3, .int .i64 m.w4, .int .i64 m.w5, .int .i64 m.w6, .int .i64 m.w7,
    .int .i64 v.w0, .int .i64 v.w1, .int .i64 v.w2, .int .i64 v.w3, .int .i64 v.w4, .int .i64 v.w5, .int .i64 v.w6, .int .i64 v.w7]
abbrev qv (e : En) (p : Option Addr) (cap : Nat) (m : Msg) (v : W8) : Value := .agg (qcells e p cap m v)

end Go.Proofs.YtpknfbgnclgpmaaGreatDoor.Sh

/-
  The smallest functions of a home's table, one contract each.
-/
namespace Go.Proofs.YtpknfbgnclgpmaaGreatDoor.Sh
open Go Go.RowKit Go.Sort

theorem tcore_any (e : En) (p : Option Addr) (cap : Nat) (x : Int) (w : World) :
    Calls Tryz.prog 53 #[ev e p cap, .int .i64 x] w fun r w' => r = .returned (.bool (hasB e.s.c x)) ∧ Below w.heap.size w w' := by
  by_cases h : 0 ≤ x
  · go_enter Tryz.func53, Tryz.ntmps53
    go_wp2
    go_ret
    exact ⟨ret_bool (by simp [hasB, h]), balloc _ _⟩
  · have h' : decide (0 ≤ x) = false := by simpa using h
    clear h
    go_enter Tryz.func53, Tryz.ntmps53
    go_wp2
    go_ret
    exact ⟨ret_bool (by simp [hasB, h']), balloc _ _⟩

set_option maxHeartbeats 1000000 in
theorem tmay_any (e : En) (p : Option Addr) (cap : Nat) (w : World) (hl : e.s.l.length ≤ 5000) (h : NumsIn w p e.s.l) :
    Calls Tryz.prog 52 #[ev e p cap] w fun r w' => r = .returned (.bool e.may) ∧ Below w.heap.size w w' := by
  have K := Kp.box w (ecells e p cap) 65
  have hc := K.1
  have H := Lib.hid (h.step K.2.2)
  clear h
  rcases Bool.eq_false_or_eq_true e.s.may with h1 | h1
  · have H1 := Lib.hid h1
    rcases Bool.eq_false_or_eq_true (e.ow == -1) with h2 | h2
    · have HE : Hid (e.may = true) := Lib.hid (by unfold En.may; rw [h1, h2]; rfl)
      clear h1
      go_enter Tryz.func52, Tryz.ntmps52
      go_wp2_with (go_at_call 91; refine (may_is H1.out p cap _ H.out hl).mono ?_; rintro _ w1 ⟨rfl, hb1⟩; have K2 := K.step hb1; have hc2 := K2.1; clear hc hb1)
      go_ret
      exact ⟨ret_bool HE.out.symm, K2.2.2⟩
    · have HE : Hid (e.may = hasB e.s.c e.ow) := Lib.hid (by unfold En.may; rw [h1, h2]; simp)
      clear h1
      go_enter Tryz.func52, Tryz.ntmps52
      go_wp2_with (first
        | (go_at_call 91; refine (may_is H1.out p cap _ H.out hl).mono ?_; rintro _ w1 ⟨rfl, hb1⟩; have K2 := K.step hb1; have hc2 := K2.1; clear hc hb1)
        | (go_at_call 53; refine (tcore_any e p cap e.ow _).mono ?_; rintro _ w2 ⟨rfl, hb2⟩; have K3 := K2.step hb2; clear hc2 hb2))
      go_ret
      exact ⟨ret_bool HE.out.symm, K3.2.2⟩
  · have H1 := Lib.hid h1
    have HE : Hid (e.may = false) := Lib.hid (by unfold En.may; rw [h1]; rfl)
    clear h1
    go_enter Tryz.func52, Tryz.ntmps52
    go_wp2_with (go_at_call 91; refine (may_is H1.out p cap _ H.out hl).mono ?_; rintro _ w1 ⟨rfl, hb1⟩; have K2 := K.step hb1; have hc2 := K2.1; clear hc hb1)
    go_ret
    exact ⟨ret_bool HE.out.symm, K2.2.2⟩

theorem targets_nil (s : St) (p : Option Addr) (cap : Nat) (w : World) (h : NumsIn w p s.l) (hl : s.l.length ≤ 5000) :
    Calls Tryz.prog 134 #[.agg (sval s p cap), .slice none 0 0] w (GaveL w (targetsS s [])) :=
  targets_any s p cap none 0 [] w h (NumsIn.nil _ _) hl (by simp)

set_option maxHeartbeats 1000000 in
theorem free_any (e : En) (p : Option Addr) (cap : Nat) (w : World) (hl : e.s.l.length ≤ 5000) (h : NumsIn w p e.s.l) :
    Calls Tryz.prog 117 #[ev e p cap] w fun r w' => r = .returned (.bool e.free) ∧ Below w.heap.size w w' := by
  have K := Kp.box w (ecells e p cap) 65
  have hc := K.1
  have H := Lib.hid (h.step K.2.2)
  clear h
  rcases Bool.eq_false_or_eq_true (e.ow == -1) with h2 | h2
  · have HE : Hid (e.free = (((targetsS e.s []).length : Int) == 0)) := Lib.hid (by unfold En.free; rw [h2]; rfl)
    go_enter Tryz.func117, Tryz.ntmps117
    go_wp2_with (go_at_call 134; refine (targets_nil e.s p cap _ H.out hl).mono ?_; rintro _ w1 ⟨pt, ct, rfl, -, hb1⟩; have K2 := K.step hb1; clear hc hb1)
    go_ret
    exact ⟨ret_bool HE.out.symm, K2.2.2⟩
  · have HE : Hid (e.free = false) := Lib.hid (by unfold En.free; rw [h2]; rfl)
    go_enter Tryz.func117, Tryz.ntmps117
    go_wp2
    go_ret
    exact ⟨ret_bool HE.out.symm, K.2.2⟩
theorem free_is {e : En} {b : Bool} (hf : e.free = b) (p : Option Addr) (cap : Nat) (w : World) (h : NumsIn w p e.s.l) (hl : e.s.l.length ≤ 5000) :
    Calls Tryz.prog 117 #[ev e p cap] w fun r w' => r = .returned (.bool b) ∧ Below w.heap.size w w' := by
  subst hf
  exact free_any e p cap w hl h

set_option maxHeartbeats 1000000 in
theorem others_fresh (e : En) (p : Option Addr) (cap : Nat) (m : Msg) (v : W8) (w : World) (hl : e.s.l.length ≤ 5000) (h : NumsIn w p e.s.l) :
    Calls Tryz.prog 119 #[qv e p cap m v] w (GaveF w (e.others m.fr)) := by
  have K := Kp.box w (qcells e p cap m v) 129
  have hc := K.1
  have K1 := K.step (balloc _ (.cells #[.int .i64 m.fr, .int .i64 e.ow] 3))
  have H := Lib.hid (h.step K1.2.2)
  have hz : (w.alloc (.cells (qcells e p cap m v) 129)).heap.size = w.heap.size + 1 := by simp
  have HN := Lib.hid (NumsIn.lit (w := w.alloc (.cells (qcells e p cap m v) 129)) (x := m.fr) (y := e.ow))
  rw [hz] at HN
  clear h hz
  go_enter Tryz.func119, Tryz.ntmps119
  go_wp2_with (go_at_call 134; refine (targets_fresh e.s p cap _ _ [m.fr, e.ow] _ H.out HN.out hl (by simp)).mono ?_; rintro _ w1 ⟨pt, ct, rfl, hi, hb1, hf1⟩; have K2 := K1.step hb1; clear hc)
  go_ret
  exact ⟨pt, ct, rfl, hi, K2.2.2, fun a ha => by have := hf1 a ha; simp at this; omega⟩

theorem others_any (e : En) (p : Option Addr) (cap : Nat) (m : Msg) (v : W8) (w : World) (hl : e.s.l.length ≤ 5000) (h : NumsIn w p e.s.l) :
    Calls Tryz.prog 119 #[qv e p cap m v] w (GaveL w (e.others m.fr)) :=
  (others_fresh e p cap m v w hl h).mono fun _ _ ⟨q, c, e, h1, h2, _⟩ => ⟨q, c, e, h1, h2⟩

/-! What is sent first, by kinds: function values in a struct. -/
abbrev fv (K : Nat) : Value := .func (.func K) #[] #[]
/-- A kind's rule: if nobody owns the line, if another does, if who asked does; and then. -/
def ruleT (k : Int) : Array Value :=
  if k = 1 then #[fv 82, fv 83, .nilFunc, fv 84]
  else if k = 2 then #[fv 85, fv 86, fv 87, fv 88]
  else if k = 3 then #[fv 89, fv 89, fv 89, fv 90]
  else #[.nilFunc, .nilFunc, .nilFunc, .nilFunc]

theorem rule_ret {w wr : World} {a : Act} {fn : Func} {g : Nat} {t1 t2 : Tmp} {R : Array Value} {b : Bool} (hres : fn.results = #[.cell t1 124, .tmp t2]) (hp : a.tmps.getD t1 undef = .pointer (some ⟨g, 0, none⟩)) (hq : a.tmps.getD t2 undef = .bool b) (hd : a.defers = [])
    (hg : wr.heap[g]? = some (.cells R 124 (0, 0))) (hs : R.size = 4) (hb : Below w.heap.size w wr) : bodyPost Tryz.prog fn (fun r w' => r = .returned (.tuple #[.agg R, .bool b]) ∧ Below w.heap.size w w') Exit.ret a wr := by
  refine bodyPost_ret (v := .tuple #[.agg R, a.tmps.getD t2 undef]) (results_cell_two hres _ _ g 124 _ (0, 0) _ hp hg Tryz.underlying124 rfl ?_) hd ⟨by rw [hq], hb⟩
  rw [hs]
  kernel_rfl

set_option maxHeartbeats 1000000 in
theorem ruleOf_any (k : Int) (w : World) :
    Calls Tryz.prog 51 #[.int .i64 k] w fun r w' => r = .returned (.tuple #[.agg (ruleT k), .bool (isReq k)]) ∧ Below w.heap.size w w' := by
  have hg := heap_alloc_new w (.cells #[.nilFunc, .nilFunc, .nilFunc, .nilFunc] 124)
  have hb := balloc w (.cells #[.nilFunc, .nilFunc, .nilFunc, .nilFunc] 124)
  by_cases h1 : k = 1
  · subst h1
    rw [show ruleT 1 = #[fv 82, fv 83, .nilFunc, fv 84] from rfl, show isReq 1 = true from rfl]
    go_enter Tryz.func51, Tryz.ntmps51
    go_wp2_with ((with_reducible refine wpList_store_row (o := ⟨none, _, _, _, _, _⟩) rfl 124 (.tmp 2) (.tmp 7) rfl w.heap.size #[fv 82, fv 83, .nilFunc, fv 84] ?sx ?sy 124 #[.nilFunc, .nilFunc, .nilFunc, .nilFunc] ?sg ?si ?so ?s1 ?_); (case sx => rfl); (case sy => rfl); (case sg => exact hg); (case si => kernel_rfl); (case so => rfl); (case s1 => kernel_rfl))
    exact rule_ret Tryz.results51 rfl rfl rfl (setRow_heap _ _ _ _ _ _ hg) rfl (below_setRow hb (Nat.le_refl _) _)
  by_cases h2 : k = 2
  · subst h2
    clear h1
    rw [show ruleT 2 = #[fv 85, fv 86, fv 87, fv 88] from rfl, show isReq 2 = true from rfl]
    go_enter Tryz.func51, Tryz.ntmps51
    go_wp2_with ((with_reducible refine wpList_store_row (o := ⟨none, _, _, _, _, _⟩) rfl 124 (.tmp 2) (.tmp 10) rfl w.heap.size #[fv 85, fv 86, fv 87, fv 88] ?sx ?sy 124 #[.nilFunc, .nilFunc, .nilFunc, .nilFunc] ?sg ?si ?so ?s1 ?_); (case sx => rfl); (case sy => rfl); (case sg => exact hg); (case si => kernel_rfl); (case so => rfl); (case s1 => kernel_rfl))
    exact rule_ret Tryz.results51 rfl rfl rfl (setRow_heap _ _ _ _ _ _ hg) rfl (below_setRow hb (Nat.le_refl _) _)
  by_cases h3 : k = 3
  · subst h3
    clear h1 h2
    rw [show ruleT 3 = #[fv 89, fv 89, fv 89, fv 90] from rfl, show isReq 3 = true from rfl]
    go_enter Tryz.func51, Tryz.ntmps51
    go_wp2_with ((with_reducible refine wpList_store_row (o := ⟨none, _, _, _, _, _⟩) rfl 124 (.tmp 2) (.tmp 13) rfl w.heap.size #[fv 89, fv 89, fv 89, fv 90] ?sx ?sy 124 #[.nilFunc, .nilFunc, .nilFunc, .nilFunc] ?sg ?si ?so ?s1 ?_); (case sx => rfl); (case sy => rfl); (case sg => exact hg); (case si => kernel_rfl); (case so => rfl); (case s1 => kernel_rfl))
    exact rule_ret Tryz.results51 rfl rfl rfl (setRow_heap _ _ _ _ _ _ hg) rfl (below_setRow hb (Nat.le_refl _) _)
  · have e1 : ruleT k = #[.nilFunc, .nilFunc, .nilFunc, .nilFunc] := by unfold ruleT; rw [if_neg h1, if_neg h2, if_neg h3]
    have q1 : (k == 1) = false := by simpa using h1
    have q2 : (k == 2) = false := by simpa using h2
    have q3 : (k == 3) = false := by simpa using h3
    have e2 : isReq k = false := by unfold isReq; rw [q1, q2, q3]; rfl
    rw [e1, e2]
    clear h1 h2 h3 e1 e2
    go_enter Tryz.func51, Tryz.ntmps51
    go_wp2_with ((with_reducible refine wpList_store_row (o := ⟨none, _, _, _, _, _⟩) rfl 124 (.tmp 2) (.tmp 14) rfl w.heap.size #[.nilFunc, .nilFunc, .nilFunc, .nilFunc] ?sx ?sy 124 #[.nilFunc, .nilFunc, .nilFunc, .nilFunc] ?sg ?si ?so ?s1 ?_); (case sx => rfl); (case sy => rfl); (case sg => exact hg); (case si => kernel_rfl); (case so => rfl); (case s1 => kernel_rfl))
    exact rule_ret Tryz.results51 rfl rfl rfl (setRow_heap _ _ _ _ _ _ hg) rfl (below_setRow hb (Nat.le_refl _) _)

/-- The one that is picked. -/
def firstF (R : Array Value) (e : En) (m : Msg) : Value := if e.ow = -1 then R.getD 0 .nilFunc else if e.ow = m.fr then R.getD 2 .nilFunc else R.getD 1 .nilFunc
set_option maxHeartbeats 1000000 in
theorem first_any (f0 f1 f2 f3 : Value) (e : En) (p : Option Addr) (cap : Nat) (m : Msg) (v : W8) (w : World) :
    Calls Tryz.prog 54 #[.agg #[f0, f1, f2, f3], qv e p cap m v] w fun r w' => r = .returned (firstF #[f0, f1, f2, f3] e m) ∧ Below w.heap.size w w' := by
  have HB := Lib.hid ((balloc w (.cells #[f0, f1, f2, f3] 124)).trans ((balloc _ (.cells (qcells e p cap m v) 129)).mono (by simp)))
  by_cases h1 : e.ow = -1
  · have e1 : firstF #[f0, f1, f2, f3] e m = f0 := by unfold firstF; rw [if_pos h1]; rfl
    rw [e1]
    have q1 : (e.ow == -1) = true := by simpa using h1
    clear h1 e1
    go_enter Tryz.func54, Tryz.ntmps54
    go_wp2
    go_ret
    exact ⟨rfl, HB.out⟩
  have q1 : (e.ow == -1) = false := by simpa using h1
  by_cases h2 : e.ow = m.fr
  · have e1 : firstF #[f0, f1, f2, f3] e m = f2 := by unfold firstF; rw [if_neg h1, if_pos h2]; rfl
    rw [e1]
    have q2 : (e.ow == m.fr) = true := by simpa using h2
    clear h1 h2 e1
    go_enter Tryz.func54, Tryz.ntmps54
    go_wp2
    go_ret
    exact ⟨rfl, HB.out⟩
  · have e1 : firstF #[f0, f1, f2, f3] e m = f1 := by unfold firstF; rw [if_neg h1, if_neg h2]; rfl
    rw [e1]
    have q2 : (e.ow == m.fr) = false := by simpa using h2
    clear h1 h2 e1
    go_enter Tryz.func54, Tryz.ntmps54
    go_wp2
    go_ret
    exact ⟨rfl, HB.out⟩

end Go.Proofs.YtpknfbgnclgpmaaGreatDoor.Sh

/-
  What is sent first: the messages' functions of a home's table, one contract each.
-/
namespace Go.Proofs.YtpknfbgnclgpmaaGreatDoor.Sh
open Go Go.RowKit Go.Sort

/-- The cells of a message that is new. -/
abbrev zm : Array Value := #[.int .i64 0, .int .i64 0, .int .i64 0, .int .i64 0, .int .i64 0, .int .i64 0, .int .i64 0, .int .i64 0, .int .i64 0, .int .i64 0, .int .i64 0, .int .i64 0, .int .i64 0, .int .i64 0, .int .i64 0]
/-- What a call gives that tells a message. -/
def GaveX (w : World) (x : Msg) (r : Ending) (w' : World) : Prop := r = .returned (mv x) ∧ Below w.heap.size w w'
theorem msg_ret {w wr : World} {x : Msg} {a : Act} {fn : Func} {g : Nat} {t1 : Tmp} (hres : fn.results = #[.cell t1 38]) (hp : a.tmps.getD t1 undef = .pointer (some ⟨g, 0, none⟩)) (hd : a.defers = [])
    (hg : wr.heap[g]? = some (.cells (mcells x) 38 (0, 0))) (hb : Below w.heap.size w wr) : bodyPost Tryz.prog fn (GaveX w x) Exit.ret a wr :=
  bodyPost_ret (v := .agg (mcells x)) (results_cell_row hres _ _ g 38 _ (0, 0) _ hp hg Tryz.underlying38 rfl (by kernel_rfl)) hd ⟨rfl, hb⟩
theorem range_of {w : World} {b : Nat} {A : Array Value} (h : ∀ o, w.cell? ⟨b, o, none⟩ = A[o]?) : w.rangeAt b 0 A.toList := fun i v hv => by
  rw [Nat.zero_add, h i]
  simpa using hv
/-- A load of a long row, in a region that draws its order; in one that does not. -/
theorem yields_load_at {P : Program} {ops : Array Oper} {S : World → Prop} {op : Oper} {a : Act} (hw : Region.wanted op (yielded ops a.tmps) = true) (ty : TypeId) (x : Operand) (ho : op.op = .load ty x)
    (b o : Nat) (hx : a.eval x = .pointer (some ⟨b, o, none⟩)) (cs : Array Value) (d : TypeDesc) (hS : ∀ w, S w → w.rangeAt b o cs.toList)
    (hu : P.underlying ty = some d) (hd : d.isRow = true) (hi : (P.info? ty).map (·.size) = some cs.size) : YieldsIf P ops S op (.agg cs) a := by
  simpa using yieldsIf_load_mid hw ty x ho b o hx cs.toList d hS hu hd (by simpa using hi)
theorem wpList_load_at {P : Program} {ops : Array Oper} {rest : List Oper} {op : Oper} {a : Act} {w : World} {Q : Exit → Act → World → Prop} (hgd : op.guard = none) (ty : TypeId) (x : Operand) (ho : op.op = .load ty x)
    (b o : Nat) (hx : a.eval x = .pointer (some ⟨b, o, none⟩)) (cs : Array Value) (d : TypeDesc) (hc : w.rangeAt b o cs.toList)
    (hu : P.underlying ty = some d) (hd : d.isRow = true) (hi : (P.info? ty).map (·.size) = some cs.size)
    (h : wpList P ops Q rest (a.put op.dst (.agg cs)) w) : wpList P ops Q (op :: rest) a w :=
  wpList_load_mid hgd ty x ho b o hx cs.toList d hc hu hd (by simpa using hi) (by simpa using h)
theorem below_drew (w : World) : Below w.heap.size w w.drew := (Below.refl _ _).drew

set_option maxRecDepth 100000 in
set_option maxHeartbeats 2000000 in
theorem readable_any (e : En) (p : Option Addr) (cap : Nat) (m : Msg) (v : W8) (w : World) (hl : e.s.l.length ≤ 5000) (h : NumsIn w p e.s.l) :
    Calls Tryz.prog 82 #[qv e p cap m v] w (GaveX w (readM e m v)) := by
  have KB := H2.box w (qcells e p cap m v) zm 129 38
  have hc := KB.cellsA
  have H := Lib.hid h
  clear h
  rcases Bool.eq_false_or_eq_true e.free with hf | hf
  · have HF := Lib.hid hf
    have HX : Hid (mcells (readM e m v) = #[.int .i64 7, .int .i64 0, .int .i64 0, .int .i64 m.fr, .int .i64 0, .int .i64 0, .int .i64 2, .int .i64 v.w0, .int .i64 v.w1, .int .i64 v.w2, .int .i64 v.w3, .int .i64 v.w4, .int .i64 v.w5, .int .i64 v.w6, .int .i64 v.w7]) := Lib.hid (by simp [readM, fullM, hf])
    clear hf
    go_enter Tryz.func82, Tryz.ntmps82
    go_wp2_with (first
      | (go_at_call 117; refine (free_is HF.out p cap _ (H.out.step KB.below) hl).mono ?_; rintro _ w1 ⟨rfl, hb1⟩; have K2 := KB.step hb1; have hc2 := K2.cellsA; clear hc hb1)
      | ((with_reducible refine wpList_store_row (o := ⟨none, _, _, _, _, _⟩) rfl 38 (.tmp 2) (.tmp 13) rfl (w.heap.size + 1) (#[.int .i64 7, .int .i64 0, .int .i64 0, .int .i64 m.fr, .int .i64 0, .int .i64 0, .int .i64 2, .int .i64 v.w0, .int .i64 v.w1, .int .i64 v.w2, .int .i64 v.w3, .int .i64 v.w4, .int .i64 v.w5, .int .i64 v.w6, .int .i64 v.w7]) ?sx ?sy 38 zm ?sg ?si ?so ?s1 ?_); (case sx => rfl); (case sy => rfl); (case sg => exact K2.b); (case si => kernel_rfl); (case so => rfl); (case s1 => kernel_rfl)))
    exact msg_ret Tryz.results82 rfl rfl (by rw [HX.out]; exact setRow_heap _ _ _ _ _ _ K2.b) (below_setRow K2.below (by omega) _)
  · have HF := Lib.hid hf
    have HX : Hid (mcells (readM e m v) = #[.int .i64 7, .int .i64 0, .int .i64 0, .int .i64 m.fr, .int .i64 0, .int .i64 0, .int .i64 1, .int .i64 v.w0, .int .i64 v.w1, .int .i64 v.w2, .int .i64 v.w3, .int .i64 v.w4, .int .i64 v.w5, .int .i64 v.w6, .int .i64 v.w7]) := Lib.hid (by simp [readM, fullM, hf])
    clear hf
    go_enter Tryz.func82, Tryz.ntmps82
    go_wp2_with (first
      | (go_at_call 117; refine (free_is HF.out p cap _ (H.out.step KB.below) hl).mono ?_; rintro _ w1 ⟨rfl, hb1⟩; have K2 := KB.step hb1; have hc2 := K2.cellsA; clear hc hb1)
      | ((with_reducible refine wpList_store_row (o := ⟨none, _, _, _, _, _⟩) rfl 38 (.tmp 2) (.tmp 13) rfl (w.heap.size + 1) (#[.int .i64 7, .int .i64 0, .int .i64 0, .int .i64 m.fr, .int .i64 0, .int .i64 0, .int .i64 1, .int .i64 v.w0, .int .i64 v.w1, .int .i64 v.w2, .int .i64 v.w3, .int .i64 v.w4, .int .i64 v.w5, .int .i64 v.w6, .int .i64 v.w7]) ?sx ?sy 38 zm ?sg ?si ?so ?s1 ?_); (case sx => rfl); (case sy => rfl); (case sg => exact K2.b); (case si => kernel_rfl); (case so => rfl); (case s1 => kernel_rfl)))
    exact msg_ret Tryz.results82 rfl rfl (by rw [HX.out]; exact setRow_heap _ _ _ _ _ _ K2.b) (below_setRow K2.below (by omega) _)

set_option maxRecDepth 100000 in
set_option maxHeartbeats 2000000 in
theorem forwardS_any (e : En) (p : Option Addr) (cap : Nat) (m : Msg) (v : W8) (w : World) :
    Calls Tryz.prog 83 #[qv e p cap m v] w (GaveX w (fwdS e m)) := by
  have KB := H2.box w (qcells e p cap m v) zm 129 38
  have hc := KB.cellsA
  go_enter Tryz.func83, Tryz.ntmps83
  go_wp2_with ((with_reducible refine wpList_store_row (o := ⟨none, _, _, _, _, _⟩) rfl 38 (.tmp 2) (.tmp 9) rfl (w.heap.size + 1) (#[.int .i64 4, .int .i64 0, .int .i64 0, .int .i64 e.ow, .int .i64 m.fr, .int .i64 0, .int .i64 0, .int .i64 0, .int .i64 0, .int .i64 0, .int .i64 0, .int .i64 0, .int .i64 0, .int .i64 0, .int .i64 0]) ?sx ?sy 38 zm ?sg ?si ?so ?s1 ?_); (case sx => rfl); (case sy => rfl); (case sg => exact KB.b); (case si => kernel_rfl); (case so => rfl); (case s1 => kernel_rfl))
  exact msg_ret Tryz.results83 rfl rfl (setRow_heap _ _ _ _ _ _ KB.b) (below_setRow KB.below (by omega) _)

set_option maxRecDepth 100000 in
set_option maxHeartbeats 2000000 in
theorem putAck_any (e : En) (p : Option Addr) (cap : Nat) (m : Msg) (v : W8) (w : World) :
    Calls Tryz.prog 89 #[qv e p cap m v] w (GaveX w (ackM m)) := by
  have KB := H2.box w (qcells e p cap m v) zm 129 38
  have hc := KB.cellsA
  go_enter Tryz.func89, Tryz.ntmps89
  go_wp2_with ((with_reducible refine wpList_store_row (o := ⟨none, _, _, _, _, _⟩) rfl 38 (.tmp 2) (.tmp 6) rfl (w.heap.size + 1) (#[.int .i64 10, .int .i64 0, .int .i64 0, .int .i64 m.fr, .int .i64 0, .int .i64 0, .int .i64 0, .int .i64 0, .int .i64 0, .int .i64 0, .int .i64 0, .int .i64 0, .int .i64 0, .int .i64 0, .int .i64 0]) ?sx ?sy 38 zm ?sg ?si ?so ?s1 ?_); (case sx => rfl); (case sy => rfl); (case sg => exact KB.b); (case si => kernel_rfl); (case so => rfl); (case s1 => kernel_rfl))
  exact msg_ret Tryz.results89 rfl rfl (setRow_heap _ _ _ _ _ _ KB.b) (below_setRow KB.below (by omega) _)

set_option maxRecDepth 100000 in
set_option maxHeartbeats 2000000 in
theorem writable_any (e : En) (p : Option Addr) (cap : Nat) (m : Msg) (v : W8) (w : World) (hl : e.s.l.length ≤ 5000) (h : NumsIn w p e.s.l) :
    Calls Tryz.prog 85 #[qv e p cap m v] w (GaveX w (wrtM e m v)) := by
  have KB := H2.box w (qcells e p cap m v) zm 129 38
  have KD := KB.step (below_drew _)
  have HO := Lib.hid (fun w1 (hb : Below w.heap.size w w1) => others_any e p cap m v w1 hl (h.step hb))
  obtain ⟨N, hN⟩ : ∃ N : Int, N = ((e.others m.fr).length : Int) := ⟨_, rfl⟩
  have HX : Hid (mcells (wrtM e m v) = #[.int .i64 7, .int .i64 0, .int .i64 0, .int .i64 m.fr, .int .i64 0, .int .i64 N, .int .i64 4, .int .i64 v.w0, .int .i64 v.w1, .int .i64 v.w2, .int .i64 v.w3, .int .i64 v.w4, .int .i64 v.w5, .int .i64 v.w6, .int .i64 v.w7]) := Lib.hid (by rw [hN]; rfl)
  have HN := Lib.hid hN
  clear h hN
  go_enter Tryz.func85, Tryz.ntmps85
  go_wp2_with fail
  refine wp_region_noPanic ?_
  refine wp_region_held_drew (S := fun w' => ∀ o, w'.cell? ⟨w.heap.size, o, none⟩ = (qcells e p cap m v)[o]?) (by kernel_rfl) KD.cellsA (fun hh => ?_)
  refine wpAnyH_take (fuel := 9) (i := 0) (oi := ⟨some 3, _, _, _, _, _⟩) (v := .pointer (some ⟨w.heap.size, 5, none⟩)) rfl (by kernel_rfl) (by kernel_rfl) (by kernel_rfl) (fun _ _ _ h => h) (Or.inl ⟨by rfl, ?_⟩) hh ?_
  · intro w' _
    go_simp
  simp only [Act.put, List.setIfInBounds_toArray, List.set_cons_zero, List.set_cons_succ]
  refine wpAnyH_take (fuel := 8) (i := 1) (oi := ⟨some 4, _, _, _, _, _⟩) (v := .pointer (some ⟨w.heap.size, 7, none⟩)) rfl (by kernel_rfl) (by kernel_rfl) (by kernel_rfl) (fun _ _ _ h => h) (Or.inl ⟨by rfl, ?_⟩) hh ?_
  · intro w' _
    go_simp
  simp only [Act.put, List.setIfInBounds_toArray, List.set_cons_zero, List.set_cons_succ]
  refine wpAnyH_take (fuel := 7) (i := 2) (oi := ⟨some 5, _, _, _, _, _⟩) (v := .int .i64 m.fr) rfl (by kernel_rfl) (by kernel_rfl) (by kernel_rfl) (fun _ _ _ h => h) (Or.inl ⟨by rfl, ?_⟩) hh ?_
  · rintro w' c0
    go_simp
  simp only [Act.put, List.setIfInBounds_toArray, List.set_cons_zero, List.set_cons_succ]
  refine wpAnyH_take (fuel := 6) (i := 3) (oi := ⟨some 6, _, _, _, _, _⟩) (v := .agg (qcells e p cap m v)) rfl (by kernel_rfl) (by kernel_rfl) (by kernel_rfl) (fun _ _ _ h => h) (yields_load_at (by rfl) 129 (.tmp 1) rfl w.heap.size 0 rfl (qcells e p cap m v) _ (fun w' c0 => range_of c0) Tryz.underlying129 rfl (by kernel_rfl)) hh ?_
  simp only [Act.put, List.setIfInBounds_toArray, List.set_cons_zero, List.set_cons_succ]
  refine wpAnyH_take (fuel := 5) (i := 6) (oi := ⟨some 9, _, _, _, _, _⟩) (v := .pointer (some ⟨w.heap.size, 20, none⟩)) rfl (by kernel_rfl) (by kernel_rfl) (by kernel_rfl) (fun _ _ _ h => h) (Or.inl ⟨by rfl, ?_⟩) hh ?_
  · intro w' _
    go_simp
  simp only [Act.put, List.setIfInBounds_toArray, List.set_cons_zero, List.set_cons_succ]
  refine wpAnyH_take (fuel := 4) (i := 7) (oi := ⟨some 10, _, _, _, _, _⟩) (v := .agg (wcells v)) rfl (by kernel_rfl) (by kernel_rfl) (by kernel_rfl) (fun _ _ _ h => h) (Or.inl ⟨by rfl, ?_⟩) hh ?_
  · rintro w' c0
    go_simp
  simp only [Act.put, List.setIfInBounds_toArray, List.set_cons_zero, List.set_cons_succ]
  refine wpAnyH_ready (fuel := 3) (rs := [4]) (by kernel_rfl) (by simp) ?_
  refine AllReadyH.cons (o := ⟨some 7, _, _, _, _, _⟩) rfl (fun K hK => ?_) AllReadyH.nil
  go_simp
  refine (HO.out _ KD.below).mono ?_
  rintro _ w1 ⟨pt, ct, rfl, -, hb1⟩
  have K2 := KD.step hb1
  show K _ _
  refine hK.out _ _ (K2.cellsA) (fun hh2 => ?_)
  clear hK K hh
  try simp only [Act.put, List.setIfInBounds_toArray, List.set_cons_zero, List.set_cons_succ]
  refine wpAnyH_take (fuel := 2) (i := 5) (oi := ⟨some 8, _, _, _, _, _⟩) (v := .int .i64 N) rfl (by kernel_rfl) (by kernel_rfl) (by kernel_rfl) (fun _ _ _ h => h) (Or.inl ⟨by rfl, ?_⟩) hh2 ?_
  · intro w' _
    (go_simp; rw [HN.out])
  simp only [Act.put, List.setIfInBounds_toArray, List.set_cons_zero, List.set_cons_succ]
  refine wpAnyH_take (fuel := 1) (i := 8) (oi := ⟨some 11, _, _, _, _, _⟩) (v := .agg #[.int .i64 7, .int .i64 0, .int .i64 0, .int .i64 m.fr, .int .i64 0, .int .i64 N, .int .i64 4, .int .i64 v.w0, .int .i64 v.w1, .int .i64 v.w2, .int .i64 v.w3, .int .i64 v.w4, .int .i64 v.w5, .int .i64 v.w6, .int .i64 v.w7]) rfl (by kernel_rfl) (by kernel_rfl) (by kernel_rfl) (fun _ _ _ h => h) (Or.inl ⟨by rfl, ?_⟩) hh2 ?_
  · intro w' _
    go_simp
  simp only [Act.put, List.setIfInBounds_toArray, List.set_cons_zero, List.set_cons_succ]
  refine wpAnyH_ready (fuel := 0) (rs := [9]) (by kernel_rfl) (by simp) ?_
  refine AllReadyH.cons (o := ⟨none, _, _, _, _, _⟩) rfl (fun K hK => ?_) AllReadyH.nil
  rw [if_pos (by rfl)]
  refine wp_store_row 38 (.tmp 2) (.tmp 11) rfl (w.heap.size + 1) (#[.int .i64 7, .int .i64 0, .int .i64 0, .int .i64 m.fr, .int .i64 0, .int .i64 N, .int .i64 4, .int .i64 v.w0, .int .i64 v.w1, .int .i64 v.w2, .int .i64 v.w3, .int .i64 v.w4, .int .i64 v.w5, .int .i64 v.w6, .int .i64 v.w7]) rfl rfl 38 zm K2.b (by kernel_rfl) rfl (by kernel_rfl) ?_
  have K3 := below_setRow K2.below (show w.heap.size ≤ w.heap.size + 1 by omega) (#[.int .i64 7, .int .i64 0, .int .i64 0, .int .i64 m.fr, .int .i64 0, .int .i64 N, .int .i64 4, .int .i64 v.w0, .int .i64 v.w1, .int .i64 v.w2, .int .i64 v.w3, .int .i64 v.w4, .int .i64 v.w5, .int .i64 v.w6, .int .i64 v.w7])
  have HC := setRow_heap _ (w.heap.size + 1) _ (#[.int .i64 7, .int .i64 0, .int .i64 0, .int .i64 m.fr, .int .i64 0, .int .i64 N, .int .i64 4, .int .i64 v.w0, .int .i64 v.w1, .int .i64 v.w2, .int .i64 v.w3, .int .i64 v.w4, .int .i64 v.w5, .int .i64 v.w6, .int .i64 v.w7]) 38 (0, 0) K2.b
  have hc3 : ∀ o, (w1.setRow (w.heap.size + 1) (#[.int .i64 7, .int .i64 0, .int .i64 0, .int .i64 m.fr, .int .i64 0, .int .i64 N, .int .i64 4, .int .i64 v.w0, .int .i64 v.w1, .int .i64 v.w2, .int .i64 v.w3, .int .i64 v.w4, .int .i64 v.w5, .int .i64 v.w6, .int .i64 v.w7])).cell? ⟨w.heap.size, o, none⟩ = (qcells e p cap m v)[o]? := fun o => (World.cell?_of_block (a := ⟨w.heap.size, o, none⟩) (setRow_other w1 (w.heap.size + 1) w.heap.size _ (by omega))).trans (K2.cellsA o)
  refine hK.out _ _ (hc3) (fun hh3 => ?_)
  clear hK K hh2
  simp only [Act.put]
  refine wpAnyH_done (by kernel_rfl) ?_ _
  refine NoPanic.normal ?_
  clear hh3
  have HC := Lib.hid HC
  have K3 := Lib.hid K3
  clear hc3 K2 hb1 KD KB
  generalize World.setRow _ _ _ = w3 at HC K3 ⊢
  go_wp2_with fail
  exact msg_ret Tryz.results85 rfl rfl (by rw [HX.out]; exact HC.out) K3.out

set_option maxRecDepth 100000 in
set_option maxHeartbeats 2000000 in
theorem forwardM_any (e : En) (p : Option Addr) (cap : Nat) (m : Msg) (v : W8) (w : World) (hl : e.s.l.length ≤ 5000) (h : NumsIn w p e.s.l) :
    Calls Tryz.prog 86 #[qv e p cap m v] w (GaveX w (fwdM e m)) := by
  have KB := H2.box w (qcells e p cap m v) zm 129 38
  have KD := KB.step (below_drew _)
  have HO := Lib.hid (fun w1 (hb : Below w.heap.size w w1) => others_any e p cap m v w1 hl (h.step hb))
  obtain ⟨N, hN⟩ : ∃ N : Int, N = ((e.others m.fr).length : Int) := ⟨_, rfl⟩
  have HX : Hid (mcells (fwdM e m) = #[.int .i64 5, .int .i64 0, .int .i64 0, .int .i64 e.ow, .int .i64 m.fr, .int .i64 N, .int .i64 0, .int .i64 0, .int .i64 0, .int .i64 0, .int .i64 0, .int .i64 0, .int .i64 0, .int .i64 0, .int .i64 0]) := Lib.hid (by rw [hN]; rfl)
  have HN := Lib.hid hN
  clear h hN
  go_enter Tryz.func86, Tryz.ntmps86
  go_wp2_with fail
  refine wp_region_noPanic ?_
  refine wp_region_held_drew (S := fun w' => ∀ o, w'.cell? ⟨w.heap.size, o, none⟩ = (qcells e p cap m v)[o]?) (by kernel_rfl) KD.cellsA (fun hh => ?_)
  refine wpAnyH_take (fuel := 10) (i := 0) (oi := ⟨some 3, _, _, _, _, _⟩) (v := .pointer (some ⟨w.heap.size, 0, none⟩)) rfl (by kernel_rfl) (by kernel_rfl) (by kernel_rfl) (fun _ _ _ h => h) (Or.inl ⟨by rfl, ?_⟩) hh ?_
  · intro w' _
    go_simp
  simp only [Act.put, List.setIfInBounds_toArray, List.set_cons_zero, List.set_cons_succ]
  refine wpAnyH_take (fuel := 9) (i := 1) (oi := ⟨some 4, _, _, _, _, _⟩) (v := .pointer (some ⟨w.heap.size, 0, none⟩)) rfl (by kernel_rfl) (by kernel_rfl) (by kernel_rfl) (fun _ _ _ h => h) (Or.inl ⟨by rfl, ?_⟩) hh ?_
  · intro w' _
    go_simp
  simp only [Act.put, List.setIfInBounds_toArray, List.set_cons_zero, List.set_cons_succ]
  refine wpAnyH_take (fuel := 8) (i := 2) (oi := ⟨some 5, _, _, _, _, _⟩) (v := .int .i64 e.ow) rfl (by kernel_rfl) (by kernel_rfl) (by kernel_rfl) (fun _ _ _ h => h) (Or.inl ⟨by rfl, ?_⟩) hh ?_
  · rintro w' c0
    go_simp
  simp only [Act.put, List.setIfInBounds_toArray, List.set_cons_zero, List.set_cons_succ]
  refine wpAnyH_take (fuel := 7) (i := 3) (oi := ⟨some 6, _, _, _, _, _⟩) (v := .pointer (some ⟨w.heap.size, 5, none⟩)) rfl (by kernel_rfl) (by kernel_rfl) (by kernel_rfl) (fun _ _ _ h => h) (Or.inl ⟨by rfl, ?_⟩) hh ?_
  · intro w' _
    go_simp
  simp only [Act.put, List.setIfInBounds_toArray, List.set_cons_zero, List.set_cons_succ]
  refine wpAnyH_take (fuel := 6) (i := 4) (oi := ⟨some 7, _, _, _, _, _⟩) (v := .pointer (some ⟨w.heap.size, 7, none⟩)) rfl (by kernel_rfl) (by kernel_rfl) (by kernel_rfl) (fun _ _ _ h => h) (Or.inl ⟨by rfl, ?_⟩) hh ?_
  · intro w' _
    go_simp
  simp only [Act.put, List.setIfInBounds_toArray, List.set_cons_zero, List.set_cons_succ]
  refine wpAnyH_take (fuel := 5) (i := 5) (oi := ⟨some 8, _, _, _, _, _⟩) (v := .int .i64 m.fr) rfl (by kernel_rfl) (by kernel_rfl) (by kernel_rfl) (fun _ _ _ h => h) (Or.inl ⟨by rfl, ?_⟩) hh ?_
  · rintro w' c0
    go_simp
  simp only [Act.put, List.setIfInBounds_toArray, List.set_cons_zero, List.set_cons_succ]
  refine wpAnyH_take (fuel := 4) (i := 6) (oi := ⟨some 9, _, _, _, _, _⟩) (v := .agg (qcells e p cap m v)) rfl (by kernel_rfl) (by kernel_rfl) (by kernel_rfl) (fun _ _ _ h => h) (yields_load_at (by rfl) 129 (.tmp 1) rfl w.heap.size 0 rfl (qcells e p cap m v) _ (fun w' c0 => range_of c0) Tryz.underlying129 rfl (by kernel_rfl)) hh ?_
  simp only [Act.put, List.setIfInBounds_toArray, List.set_cons_zero, List.set_cons_succ]
  refine wpAnyH_ready (fuel := 3) (rs := [7]) (by kernel_rfl) (by simp) ?_
  refine AllReadyH.cons (o := ⟨some 10, _, _, _, _, _⟩) rfl (fun K hK => ?_) AllReadyH.nil
  go_simp
  refine (HO.out _ KD.below).mono ?_
  rintro _ w1 ⟨pt, ct, rfl, -, hb1⟩
  have K2 := KD.step hb1
  show K _ _
  refine hK.out _ _ (K2.cellsA) (fun hh2 => ?_)
  clear hK K hh
  try simp only [Act.put, List.setIfInBounds_toArray, List.set_cons_zero, List.set_cons_succ]
  refine wpAnyH_take (fuel := 2) (i := 8) (oi := ⟨some 11, _, _, _, _, _⟩) (v := .int .i64 N) rfl (by kernel_rfl) (by kernel_rfl) (by kernel_rfl) (fun _ _ _ h => h) (Or.inl ⟨by rfl, ?_⟩) hh2 ?_
  · intro w' _
    (go_simp; rw [HN.out])
  simp only [Act.put, List.setIfInBounds_toArray, List.set_cons_zero, List.set_cons_succ]
  refine wpAnyH_take (fuel := 1) (i := 9) (oi := ⟨some 12, _, _, _, _, _⟩) (v := .agg #[.int .i64 5, .int .i64 0, .int .i64 0, .int .i64 e.ow, .int .i64 m.fr, .int .i64 N, .int .i64 0, .int .i64 0, .int .i64 0, .int .i64 0, .int .i64 0, .int .i64 0, .int .i64 0, .int .i64 0, .int .i64 0]) rfl (by kernel_rfl) (by kernel_rfl) (by kernel_rfl) (fun _ _ _ h => h) (Or.inl ⟨by rfl, ?_⟩) hh2 ?_
  · intro w' _
    go_simp
  simp only [Act.put, List.setIfInBounds_toArray, List.set_cons_zero, List.set_cons_succ]
  refine wpAnyH_ready (fuel := 0) (rs := [10]) (by kernel_rfl) (by simp) ?_
  refine AllReadyH.cons (o := ⟨none, _, _, _, _, _⟩) rfl (fun K hK => ?_) AllReadyH.nil
  rw [if_pos (by rfl)]
  refine wp_store_row 38 (.tmp 2) (.tmp 12) rfl (w.heap.size + 1) (#[.int .i64 5, .int .i64 0, .int .i64 0, .int .i64 e.ow, .int .i64 m.fr, .int .i64 N, .int .i64 0, .int .i64 0, .int .i64 0, .int .i64 0, .int .i64 0, .int .i64 0, .int .i64 0, .int .i64 0, .int .i64 0]) rfl rfl 38 zm K2.b (by kernel_rfl) rfl (by kernel_rfl) ?_
  have K3 := below_setRow K2.below (show w.heap.size ≤ w.heap.size + 1 by omega) (#[.int .i64 5, .int .i64 0, .int .i64 0, .int .i64 e.ow, .int .i64 m.fr, .int .i64 N, .int .i64 0, .int .i64 0, .int .i64 0, .int .i64 0, .int .i64 0, .int .i64 0, .int .i64 0, .int .i64 0, .int .i64 0])
  have HC := setRow_heap _ (w.heap.size + 1) _ (#[.int .i64 5, .int .i64 0, .int .i64 0, .int .i64 e.ow, .int .i64 m.fr, .int .i64 N, .int .i64 0, .int .i64 0, .int .i64 0, .int .i64 0, .int .i64 0, .int .i64 0, .int .i64 0, .int .i64 0, .int .i64 0]) 38 (0, 0) K2.b
  have hc3 : ∀ o, (w1.setRow (w.heap.size + 1) (#[.int .i64 5, .int .i64 0, .int .i64 0, .int .i64 e.ow, .int .i64 m.fr, .int .i64 N, .int .i64 0, .int .i64 0, .int .i64 0, .int .i64 0, .int .i64 0, .int .i64 0, .int .i64 0, .int .i64 0, .int .i64 0])).cell? ⟨w.heap.size, o, none⟩ = (qcells e p cap m v)[o]? := fun o => (World.cell?_of_block (a := ⟨w.heap.size, o, none⟩) (setRow_other w1 (w.heap.size + 1) w.heap.size _ (by omega))).trans (K2.cellsA o)
  refine hK.out _ _ (hc3) (fun hh3 => ?_)
  clear hK K hh2
  simp only [Act.put]
  refine wpAnyH_done (by kernel_rfl) ?_ _
  refine NoPanic.normal ?_
  clear hh3
  have HC := Lib.hid HC
  have K3 := Lib.hid K3
  clear hc3 K2 hb1 KD KB
  generalize World.setRow _ _ _ = w3 at HC K3 ⊢
  go_wp2_with fail
  exact msg_ret Tryz.results86 rfl rfl (by rw [HX.out]; exact HC.out) K3.out

set_option maxRecDepth 100000 in
set_option maxHeartbeats 2000000 in
theorem grant_any (e : En) (p : Option Addr) (cap : Nat) (m : Msg) (v : W8) (w : World) (hl : e.s.l.length ≤ 5000) (h : NumsIn w p e.s.l) :
    Calls Tryz.prog 87 #[qv e p cap m v] w (GaveX w (grtM e m)) := by
  have KB := H2.box w (qcells e p cap m v) zm 129 38
  have KD := KB.step (below_drew _)
  have HO := Lib.hid (fun w1 (hb : Below w.heap.size w w1) => others_any e p cap m v w1 hl (h.step hb))
  obtain ⟨N, hN⟩ : ∃ N : Int, N = ((e.others m.fr).length : Int) := ⟨_, rfl⟩
  have HX : Hid (mcells (grtM e m) = #[.int .i64 8, .int .i64 0, .int .i64 0, .int .i64 m.fr, .int .i64 0, .int .i64 N, .int .i64 0, .int .i64 0, .int .i64 0, .int .i64 0, .int .i64 0, .int .i64 0, .int .i64 0, .int .i64 0, .int .i64 0]) := Lib.hid (by rw [hN]; rfl)
  have HN := Lib.hid hN
  clear h hN
  go_enter Tryz.func87, Tryz.ntmps87
  go_wp2_with fail
  refine wp_region_noPanic ?_
  refine wp_region_held_drew (S := fun w' => ∀ o, w'.cell? ⟨w.heap.size, o, none⟩ = (qcells e p cap m v)[o]?) (by kernel_rfl) KD.cellsA (fun hh => ?_)
  refine wpAnyH_take (fuel := 7) (i := 0) (oi := ⟨some 3, _, _, _, _, _⟩) (v := .pointer (some ⟨w.heap.size, 5, none⟩)) rfl (by kernel_rfl) (by kernel_rfl) (by kernel_rfl) (fun _ _ _ h => h) (Or.inl ⟨by rfl, ?_⟩) hh ?_
  · intro w' _
    go_simp
  simp only [Act.put, List.setIfInBounds_toArray, List.set_cons_zero, List.set_cons_succ]
  refine wpAnyH_take (fuel := 6) (i := 1) (oi := ⟨some 4, _, _, _, _, _⟩) (v := .pointer (some ⟨w.heap.size, 7, none⟩)) rfl (by kernel_rfl) (by kernel_rfl) (by kernel_rfl) (fun _ _ _ h => h) (Or.inl ⟨by rfl, ?_⟩) hh ?_
  · intro w' _
    go_simp
  simp only [Act.put, List.setIfInBounds_toArray, List.set_cons_zero, List.set_cons_succ]
  refine wpAnyH_take (fuel := 5) (i := 2) (oi := ⟨some 5, _, _, _, _, _⟩) (v := .int .i64 m.fr) rfl (by kernel_rfl) (by kernel_rfl) (by kernel_rfl) (fun _ _ _ h => h) (Or.inl ⟨by rfl, ?_⟩) hh ?_
  · rintro w' c0
    go_simp
  simp only [Act.put, List.setIfInBounds_toArray, List.set_cons_zero, List.set_cons_succ]
  refine wpAnyH_take (fuel := 4) (i := 3) (oi := ⟨some 6, _, _, _, _, _⟩) (v := .agg (qcells e p cap m v)) rfl (by kernel_rfl) (by kernel_rfl) (by kernel_rfl) (fun _ _ _ h => h) (yields_load_at (by rfl) 129 (.tmp 1) rfl w.heap.size 0 rfl (qcells e p cap m v) _ (fun w' c0 => range_of c0) Tryz.underlying129 rfl (by kernel_rfl)) hh ?_
  simp only [Act.put, List.setIfInBounds_toArray, List.set_cons_zero, List.set_cons_succ]
  refine wpAnyH_ready (fuel := 3) (rs := [4]) (by kernel_rfl) (by simp) ?_
  refine AllReadyH.cons (o := ⟨some 7, _, _, _, _, _⟩) rfl (fun K hK => ?_) AllReadyH.nil
  go_simp
  refine (HO.out _ KD.below).mono ?_
  rintro _ w1 ⟨pt, ct, rfl, -, hb1⟩
  have K2 := KD.step hb1
  show K _ _
  refine hK.out _ _ (K2.cellsA) (fun hh2 => ?_)
  clear hK K hh
  try simp only [Act.put, List.setIfInBounds_toArray, List.set_cons_zero, List.set_cons_succ]
  refine wpAnyH_take (fuel := 2) (i := 5) (oi := ⟨some 8, _, _, _, _, _⟩) (v := .int .i64 N) rfl (by kernel_rfl) (by kernel_rfl) (by kernel_rfl) (fun _ _ _ h => h) (Or.inl ⟨by rfl, ?_⟩) hh2 ?_
  · intro w' _
    (go_simp; rw [HN.out])
  simp only [Act.put, List.setIfInBounds_toArray, List.set_cons_zero, List.set_cons_succ]
  refine wpAnyH_take (fuel := 1) (i := 6) (oi := ⟨some 9, _, _, _, _, _⟩) (v := .agg #[.int .i64 8, .int .i64 0, .int .i64 0, .int .i64 m.fr, .int .i64 0, .int .i64 N, .int .i64 0, .int .i64 0, .int .i64 0, .int .i64 0, .int .i64 0, .int .i64 0, .int .i64 0, .int .i64 0, .int .i64 0]) rfl (by kernel_rfl) (by kernel_rfl) (by kernel_rfl) (fun _ _ _ h => h) (Or.inl ⟨by rfl, ?_⟩) hh2 ?_
  · intro w' _
    go_simp
  simp only [Act.put, List.setIfInBounds_toArray, List.set_cons_zero, List.set_cons_succ]
  refine wpAnyH_ready (fuel := 0) (rs := [7]) (by kernel_rfl) (by simp) ?_
  refine AllReadyH.cons (o := ⟨none, _, _, _, _, _⟩) rfl (fun K hK => ?_) AllReadyH.nil
  rw [if_pos (by rfl)]
  refine wp_store_row 38 (.tmp 2) (.tmp 9) rfl (w.heap.size + 1) (#[.int .i64 8, .int .i64 0, .int .i64 0, .int .i64 m.fr, .int .i64 0, .int .i64 N, .int .i64 0, .int .i64 0, .int .i64 0, .int .i64 0, .int .i64 0, .int .i64 0, .int .i64 0, .int .i64 0, .int .i64 0]) rfl rfl 38 zm K2.b (by kernel_rfl) rfl (by kernel_rfl) ?_
  have K3 := below_setRow K2.below (show w.heap.size ≤ w.heap.size + 1 by omega) (#[.int .i64 8, .int .i64 0, .int .i64 0, .int .i64 m.fr, .int .i64 0, .int .i64 N, .int .i64 0, .int .i64 0, .int .i64 0, .int .i64 0, .int .i64 0, .int .i64 0, .int .i64 0, .int .i64 0, .int .i64 0])
  have HC := setRow_heap _ (w.heap.size + 1) _ (#[.int .i64 8, .int .i64 0, .int .i64 0, .int .i64 m.fr, .int .i64 0, .int .i64 N, .int .i64 0, .int .i64 0, .int .i64 0, .int .i64 0, .int .i64 0, .int .i64 0, .int .i64 0, .int .i64 0, .int .i64 0]) 38 (0, 0) K2.b
  have hc3 : ∀ o, (w1.setRow (w.heap.size + 1) (#[.int .i64 8, .int .i64 0, .int .i64 0, .int .i64 m.fr, .int .i64 0, .int .i64 N, .int .i64 0, .int .i64 0, .int .i64 0, .int .i64 0, .int .i64 0, .int .i64 0, .int .i64 0, .int .i64 0, .int .i64 0])).cell? ⟨w.heap.size, o, none⟩ = (qcells e p cap m v)[o]? := fun o => (World.cell?_of_block (a := ⟨w.heap.size, o, none⟩) (setRow_other w1 (w.heap.size + 1) w.heap.size _ (by omega))).trans (K2.cellsA o)
  refine hK.out _ _ (hc3) (fun hh3 => ?_)
  clear hK K hh2
  simp only [Act.put]
  refine wpAnyH_done (by kernel_rfl) ?_ _
  refine NoPanic.normal ?_
  clear hh3
  have HC := Lib.hid HC
  have K3 := Lib.hid K3
  clear hc3 K2 hb1 KD KB
  generalize World.setRow _ _ _ = w3 at HC K3 ⊢
  go_wp2_with fail
  exact msg_ret Tryz.results87 rfl rfl (by rw [HX.out]; exact HC.out) K3.out

end Go.Proofs.YtpknfbgnclgpmaaGreatDoor.Sh

/-
  A turn in memory: its block, and the row of the messages that it sends; what sending one leaves.
-/
namespace Go.Proofs.YtpknfbgnclgpmaaGreatDoor.Sh
open Go Go.RowKit Go.Sort

/-! Things as cells. -/
def tcs (l : List Msg) : List Value := l.flatMap fun m => (mcells m).toList
theorem tcs_append (l m : List Msg) : tcs (l ++ m) = tcs l ++ tcs m := by simp [tcs]
theorem tcs_one (m : Msg) : tcs [m] = (mcells m).toList := by simp [tcs]
theorem tcs_len (l : List Msg) : (tcs l).length = l.length * 15 := by
  induction l with
  | nil => simp [tcs]
  | cons x l ih =>
    have e : tcs (x :: l) = (mcells x).toList ++ tcs l := rfl
    rw [e, List.length_append, ih, List.length_cons]
    simp
    omega
theorem tcs_at (l : List Msg) (i j : Nat) (h : i < l.length) (hj : j < 15) : (tcs l)[i * 15 + j]? = (mcells l[i])[j]? := by
  induction l generalizing i with
  | nil => simp at h
  | cons x l ih =>
    have e : tcs (x :: l) = (mcells x).toList ++ tcs l := rfl
    cases i with
    | zero => rw [e, Nat.zero_mul, Nat.zero_add, List.getElem?_append_left (by simpa using hj)]; simp
    | succ i =>
      rw [e, show (i + 1) * 15 + j = 15 + (i * 15 + j) by omega, List.getElem?_append_right (by simp)]
      have := ih i (by simpa using h)
      simpa using this
theorem tcs_cells (l : List Msg) : ∀ u ∈ tcs l, u.oneCell' = true := by
  intro u hu
  obtain ⟨m, _, hm⟩ := List.mem_flatMap.1 hu
  simp at hm
  rcases hm with rfl | rfl | rfl | rfl | rfl | rfl | rfl | rfl | rfl | rfl | rfl | rfl | rfl | rfl | rfl <;> rfl
theorem A30 : (Tryz.prog.info? 38).map (fun i => (i.zero, i.size, i.bytes)) = some (some (.agg zm), 15, 120) := by kernel_rfl

theorem NumsIn.keep {w w' : World} {p : Option Addr} {l : List Int} (h : NumsIn w p l) (hs : w.heap.size ≤ w'.heap.size) (hk : l ≠ [] → ∀ a, p = some a → a.block < w.heap.size → w'.heap[a.block]? = w.heap[a.block]?) : NumsIn w' p l := fun j hj => by
  obtain ⟨g, off, rfl, hg, hc⟩ := h j hj
  exact ⟨g, off, rfl, Nat.lt_of_lt_of_le hg hs, (World.cell?_of_block (a := ⟨g, off + j, none⟩) (hk (fun e => by rw [e] at hj; simp at hj) ⟨g, off, none⟩ rfl hg)).trans hc⟩

/-- Of what was there nothing has changed but one block, and the block of one row. -/
structure Chg (b : Nat) (v : Value) (w w' : World) : Prop where
  os : w'.os = w.os
  tape : w'.tape = w.tape
  output : w'.output = w.output
  size : w.heap.size ≤ w'.heap.size
  other : ∀ k, k < w.heap.size → k ≠ b → v.ownBlock ≠ some k → w'.heap[k]? = w.heap[k]?
/-- A row's block is the one of before, or new. -/
def Frs (w : World) (v v' : Value) : Prop := ∀ k, v'.ownBlock = some k → v.ownBlock = some k ∨ w.heap.size ≤ k
theorem Chg.of_below {b : Nat} {v : Value} {w w' : World} (h : Below w.heap.size w w') : Chg b v w w' := ⟨h.os, h.tape, h.output, h.size, fun k hk _ _ => h.block k hk⟩
theorem Chg.trans {b : Nat} {v v' : Value} {w w1 w2 : World} (h : Chg b v w w1) (k : Chg b v' w1 w2) (hf : Frs w v v') : Chg b v w w2 :=
  ⟨k.os.trans h.os, k.tape.trans h.tape, k.output.trans h.output, Nat.le_trans h.size k.size, fun i hi h1 h2 => (k.other i (Nat.lt_of_lt_of_le hi h.size) h1 (fun e => by rcases hf i e with e | e; exact h2 e; omega)).trans (h.other i hi h1 h2)⟩
theorem Frs.trans {v v' v'' : Value} {w w1 : World} (h : Frs w v v') (k : Frs w1 v' v'') (hs : w.heap.size ≤ w1.heap.size) : Frs w v v'' := fun i hi => by
  rcases k i hi with e | e
  · exact h i e
  · right; omega
theorem Frs.refl (w : World) (v : Value) : Frs w v v := fun _ h => .inl h

/-- A turn's cells. -/
abbrev tcells (t : Tn) (p : Option Addr) (cap : Nat) (v : Value) : Array Value := #[.int .i64 t.e.ow, .int .i64 t.e.s.c, .int .i64 t.e.s.m, .slice p t.e.s.l.length cap, .bool t.e.s.al, v, .bool t.wr]
structure Tu (w : World) (B b : Nat) (t : Tn) (p : Option Addr) (cap : Nat) (v : Value) : Prop where
  blk : w.heap[b]? = some (.cells (tcells t p cap v) 82 (0, 0))
  nums : NumsIn w p t.e.s.l
  row : w.ownsRow B 38 15 v t.sent.length (tcs t.sent)
  off : v.ownBlock ≠ some b
  big : B ≤ b
  sep : t.e.s.l ≠ [] → ∀ a, p = some a → a.block ≠ b ∧ v.ownBlock ≠ some a.block ∧ B ≤ a.block
theorem Tu.lt {w : World} {B b : Nat} {t : Tn} {p : Option Addr} {cap : Nat} {v : Value} (h : Tu w B b t p cap v) : b < w.heap.size := lt_of_block h.blk
theorem own_kept {w w' : World} {base e sz n : Nat} {v : Value} {xs : List Value} (h : w.ownsRow base e sz v n xs) (hb : ∀ k, v.ownBlock = some k → w'.heap[k]? = w.heap[k]?) : w'.ownsRow base e sz v n xs := by
  refine ⟨h.1, ?_⟩
  rcases h.2 with hn | ⟨g, cap, cur, rfl, hb', hgg, rest⟩
  · exact .inl hn
  · exact .inr ⟨g, cap, cur, rfl, hb', (hb g rfl).trans hgg, rest⟩
theorem Tu.step {w w' : World} {B b : Nat} {t : Tn} {p : Option Addr} {cap : Nat} {v : Value} (h : Tu w B b t p cap v) (hb : Below w.heap.size w w') : Tu w' B b t p cap v :=
  ⟨(hb.block b h.lt).trans h.blk, h.nums.step hb, own_kept h.row fun k hk => hb.block k (h.row.lt k hk).2, h.off, h.big, h.sep⟩
theorem Chg.below {w w' : World} {B b : Nat} {t : Tn} {p : Option Addr} {cap : Nat} {v : Value} (h : Chg b v w w') (hb : Tu w B b t p cap v) (hB : B ≤ w.heap.size) : Below B w w' :=
  ⟨h.os, h.tape, h.output, h.size, fun k hk => h.other k (by omega) (by have := hb.big; omega) (fun e => by have := hb.row.lt k e; omega)⟩

/-- A row of before the turn's own is set anew. -/
theorem Tu.past {w : World} {B b : Nat} {t : Tn} {p : Option Addr} {cap : Nat} {v : Value} (h : Tu w B b t p cap v) {g : Nat} (hg : g < B) (cs : Array Value) : Tu (w.setRow g cs) B b t p cap v :=
  ⟨(setRow_other w g b cs (by have := h.big; omega)).trans h.blk, h.nums.keep (by simp) fun hl a ha _ => setRow_other w g _ cs (by have := (h.sep hl a ha).2.2; omega), own_kept h.row fun k hk => setRow_other w g k cs (by have := (h.row.lt k hk).1; omega), h.off, h.big, h.sep⟩
/-- What is behind a call that turns a turn. -/
def TuGave (w : World) (B b : Nat) (v : Value) (t' : Tn) (r : Ending) (w' : World) : Prop := (∃ u, r = .returned u) ∧ ∃ p' cap' v', Tu w' B b t' p' cap' v' ∧ Chg b v w w' ∧ Frs w v v'

theorem tu_blk {w w1 w2 : World} {B b : Nat} {t : Tn} {p : Option Addr} {cap : Nat} {v : Value} (h : Tu w B b t p cap v) (hw : Below w.heap.size w w1) (hgrow : w1.grownBy w2 v.ownBlock) : w2.heap[b]? = some (.cells (tcells t p cap v) 82 (0, 0)) :=
  (hgrow.block b (Nat.lt_of_lt_of_le h.lt hw.size) (fun e => h.off e.symm)).trans ((hw.block b h.lt).trans h.blk)
theorem tu_sent {w w1 w2 : World} {B b : Nat} {t : Tn} {p : Option Addr} {cap : Nat} {v : Value} {x : Msg} {g c : Nat} (h : Tu w B b t p cap v) (hw : Below w.heap.size w w1)
    (hown : w2.ownsRow B 38 15 (.slice (some ⟨g, 0, none⟩) (t.sent.length + 1) c) (t.sent.length + 1) (tcs t.sent ++ (mcells x).toList)) (hgrow : w1.grownBy w2 v.ownBlock) (hat : v.ownBlock = some g ∨ w.heap.size ≤ g) :
    ∃ v', Tu (w2.setCell ⟨b, 5, none⟩ (.slice (some ⟨g, 0, none⟩) (t.sent.length + 1) c)) B b ⟨t.e, t.sent ++ [x], t.wr⟩ p cap v' ∧ Chg b v w (w2.setCell ⟨b, 5, none⟩ (.slice (some ⟨g, 0, none⟩) (t.sent.length + 1) c)) ∧ Frs w v v' := by
  have hbl := h.lt
  have hb2 := tu_blk h hw hgrow
  have hgb : g ≠ b := by
    rcases hat with hat | hat
    · exact fun e => h.off (e ▸ hat)
    · omega
  have hch : Chg b v w (w2.setCell ⟨b, 5, none⟩ (.slice (some ⟨g, 0, none⟩) (t.sent.length + 1) c)) := by
    refine ⟨?_, ?_, ?_, ?_, fun k hk h1 h2 => ?_⟩
    · exact hgrow.os.trans hw.os
    · exact hgrow.tape.trans hw.tape
    · exact hgrow.output.trans hw.output
    · have h3 := hw.size; have h4 := hgrow.size; simp [World.setCell]; omega
    · exact (heap_setCell_other _ _ _ _ h1).trans ((hgrow.block k (Nat.lt_of_lt_of_le hk hw.size) (fun e => h2 e.symm)).trans (hw.block k hk))
  refine ⟨.slice (some ⟨g, 0, none⟩) (t.sent.length + 1) c, ⟨?_, ?_, ?_, ?_, h.big, ?_⟩, hch, ?_⟩
  · rw [heap_setCell_same w2 b 5 _ _ _ hb2]
    rfl
  · exact h.nums.keep hch.size fun hl a ha hlt => hch.other _ hlt (h.sep hl a ha).1 (h.sep hl a ha).2.1
  · have := own_kept (w' := w2.setCell ⟨b, 5, none⟩ (.slice (some ⟨g, 0, none⟩) (t.sent.length + 1) c)) hown fun k hk => by
      simp only [Value.ownBlock, Option.some.injEq] at hk
      exact heap_setCell_other _ _ _ _ (by simp only; omega)
    simp only [List.length_append, List.length_singleton, tcs_append, tcs_one]
    exact this
  · simpa [Value.ownBlock] using hgb
  · intro hl a ha
    obtain ⟨g', off', e, hg', _⟩ := h.nums 0 (by cases hq : t.e.s.l with | nil => exact absurd hq hl | cons => simp)
    rw [ha] at e
    cases e
    refine ⟨(h.sep hl _ ha).1, ?_, (h.sep hl _ ha).2.2⟩
    simp only [Value.ownBlock, ne_eq, Option.some.injEq]
    intro e
    rcases hat with hat | hat
    · exact (h.sep hl _ ha).2.1 (e ▸ hat)
    · omega
  · intro k hk
    simp only [Value.ownBlock, Option.some.injEq] at hk
    rcases hat with hat | hat
    · exact .inl (hk ▸ hat)
    · exact .inr (hk ▸ hat)

/-- Some cells of the block are set anew, but for the row's. -/
theorem Tu.turned {w w1 w' : World} {B b : Nat} {t : Tn} {p : Option Addr} {cap : Nat} {v : Value} (h : Tu w B b t p cap v) (hw : Below w.heap.size w w1) {e' : En} {r' : Bool} {p' : Option Addr} {cap' : Nat}
    (hblk : w'.heap[b]? = some (.cells (tcells ⟨e', t.sent, r'⟩ p' cap' v) 82 (0, 0))) (ho : ∀ k, k ≠ b → w'.heap[k]? = w1.heap[k]?) (hr : w'.os = w1.os ∧ w'.tape = w1.tape ∧ w'.output = w1.output ∧ w'.heap.size = w1.heap.size)
    (hn : NumsIn w1 p' e'.s.l) (hsep : e'.s.l ≠ [] → ∀ a, p' = some a → a.block ≠ b ∧ v.ownBlock ≠ some a.block ∧ B ≤ a.block) : ∃ v', Tu w' B b ⟨e', t.sent, r'⟩ p' cap' v' ∧ Chg b v w w' ∧ Frs w v v' := by
  have hz := hw.size
  refine ⟨v, ⟨hblk, hn.keep (by rw [hr.2.2.2]; exact Nat.le_refl _) fun hl a ha _ => ho _ (hsep hl a ha).1, own_kept h.row fun k hk => (ho k fun e => h.off (e ▸ hk)).trans (hw.block k (h.row.lt k hk).2), h.off, h.big, hsep⟩, ⟨hr.1.trans hw.os, hr.2.1.trans hw.tape, hr.2.2.1.trans hw.output, by rw [hr.2.2.2]; exact hz, fun k hk h1 _ => (ho k h1).trans (hw.block k hk)⟩, Frs.refl _ _⟩

/-- The cells of a message as it is sent. -/
abbrev scells (m x : Msg) : Array Value := #[.int .i64 x.kd, .int .i64 m.ln, .int .i64 m.to, .int .i64 x.to, .int .i64 x.wh, .int .i64 x.ac, .int .i64 x.ow, .int .i64 x.w0, .int .i64 x.w1, .int .i64 x.w2, .int .i64 x.w3, .int .i64 x.w4, .int .i64 x.w5, .int .i64 x.w6, .int .i64 x.w7]
set_option maxRecDepth 100000 in
set_option maxHeartbeats 2000000 in
theorem send_any {w : World} {B b : Nat} {t : Tn} {p : Option Addr} {cap : Nat} {v : Value} (h : Tu w B b t p cap v) (e : En) (pe : Option Addr) (ce : Nat) (m : Msg) (u : W8) (x : Msg) (hB : B ≤ w.heap.size) (hl : t.sent.length ≤ 1000) :
    Calls Tryz.prog 56 #[qv e pe ce m u, .pointer (some ⟨b, 0, none⟩), mv x] w (TuGave w B b v (t.send m x)) := by
  obtain ⟨i0, hi, hz0, hz1, hz2⟩ := info_parts A30
  have K := H2.box w (qcells e pe ce m u) (scells m x) 129 38
  have hlt := h.lt
  have H := Lib.hid h
  clear h
  go_enter Tryz.func56, Tryz.ntmps56
  go_wp2_with fail
  obtain ⟨w1, hw1⟩ : ∃ w1, w1 = (w.alloc (.cells (qcells e pe ce m u) 129)).alloc (.cells (scells m x) 38) := ⟨_, rfl⟩
  rw [← hw1] at K
  rw [← hw1]
  clear hw1
  have H1 := Lib.hid (H.out.step K.below)
  have c5 := blk_cell H1.out.blk 5
  have f5 := blk_free H1.out.blk 5
  have hlt1 := H1.out.lt
  have cx := K.cellsB
  have hsz := K.below.size
  have HB1 := Lib.hid K.below
  have hlB := lt_of_block K.b
  simp at c5
  clear K
  go_region_law
    ((refine step_append_lies _ (by rfl) _ _ _ (by rfl) B 38 i0 _ 15 120 Tryz.underlying78 hi hz0 hz1 hz2 rfl (by omega) v t.sent.length (tcs t.sent) (by rfl) ((H1.out.row.alloc _).drew)
        ⟨w1.heap.size, 0, none⟩ 1 1 (scells m x).toList (by rfl) (by rfl) (World.news_of_block (cs := scells m x) (t := 38) (fr := (0, 0)) (heap_alloc_new w1 _)) (by intro u hu; exact tcs_cells [sendM m x] u (by rw [tcs_one]; exact hu))
        (by omega) (by unfold maxLen; omega) (by omega) (by simp; omega) (w1.heap.size + 1) (by simp) ?_; intro gg cap2 w2 hown hgrow hat hlt2; have hb2 := tu_blk H1.out (((Below.refl _ w1).alloc (Nat.le_refl _) _).drew) hgrow; have c2 := blk_cell hb2 5; have f2 := blk_free hb2 5; simp at c2; clear hb2))
  all_goals
    have R := tu_sent (x := sendM m x) H.out ((HB1.out.alloc hsz (.cells (scells m x) 38)).drew) hown hgrow (hat.imp id fun h => by omega)
    clear hown hgrow hat hlt2
    go_wp2
    go_end0
    obtain ⟨v', h1, h2, h3⟩ := R
    exact ⟨⟨_, rfl⟩, p, cap, v', h1, h2, h3⟩

end Go.Proofs.YtpknfbgnclgpmaaGreatDoor.Sh

/-
  What is laid then, but for a write: leave, share.
-/
namespace Go.Proofs.YtpknfbgnclgpmaaGreatDoor.Sh
open Go Go.RowKit Go.Sort

/-! A store into a block that is known whole. -/
/-- Nothing has changed but one block, which is this then. -/
structure Stb (b : Nat) (new : Array Value) (t : TypeId) (w w' : World) : Prop where
  blk : w'.heap[b]? = some (.cells new t (0, 0))
  other : ∀ k, k ≠ b → w'.heap[k]? = w.heap[k]?
  os : w'.os = w.os
  tape : w'.tape = w.tape
  output : w'.output = w.output
  size : w'.heap.size = w.heap.size
theorem Stb.one {w : World} {b : Nat} {A : Array Value} {t : TypeId} (h : w.heap[b]? = some (.cells A t (0, 0))) (i : Nat) (u : Value) : Stb b (A.setIfInBounds i u) t w (w.setCell ⟨b, i, none⟩ u) :=
  ⟨heap_setCell_same w b i _ _ u h, fun k hk => heap_setCell_other _ _ _ _ hk, rfl, rfl, rfl, by simp⟩
theorem Stb.trans {w w1 w2 : World} {b : Nat} {A B : Array Value} {t : TypeId} (h : Stb b A t w w1) (k : Stb b B t w1 w2) : Stb b B t w w2 :=
  ⟨k.blk, fun i hi => (k.other i hi).trans (h.other i hi), k.os.trans h.os, k.tape.trans h.tape, k.output.trans h.output, k.size.trans h.size⟩
theorem Stb.below {w w' : World} {b : Nat} {A : Array Value} {t : TypeId} (h : Stb b A t w w') : Below b w w' := ⟨h.os, h.tape, h.output, by rw [h.size]; exact Nat.le_refl _, fun k hk => h.other k (by omega)⟩
theorem stb_many (b : Nat) (t : TypeId) : ∀ (vs : List Value) (o : Nat) (cur : Array Value) (w : World), w.heap[b]? = some (.cells cur t (0, 0)) → ∃ new, Stb b new t w (w.setCells b o vs) ∧ new.size = cur.size ∧ ∀ i, i < cur.size → new[i]? = if o ≤ i ∧ i < o + vs.length then vs[i - o]? else cur[i]?
  | [], o, cur, w, h => ⟨cur, ⟨h, fun _ _ => rfl, rfl, rfl, rfl, rfl⟩, rfl, fun i _ => by rw [if_neg (by simp)]⟩
  | v :: r, o, cur, w, h => by
    have h1 := Stb.one h o v
    obtain ⟨new, h2, h3, h4⟩ := stb_many b t r (o + 1) _ _ h1.blk
    refine ⟨new, h1.trans h2, by rw [h3]; simp, fun i hi => ?_⟩
    rw [h4 i (by simpa using hi)]
    by_cases hc : o + 1 ≤ i ∧ i < o + 1 + r.length
    · rw [if_pos hc, if_pos (by simp; omega), show i - o = (i - (o + 1)) + 1 by omega, List.getElem?_cons_succ]
    · rw [if_neg hc]
      by_cases ho : i = o
      · subst ho
        rw [if_pos (by simp), Nat.sub_self, List.getElem?_cons_zero, Array.getElem?_setIfInBounds_self_of_lt hi]
      · rw [if_neg (by simp; omega), Array.getElem?_setIfInBounds_ne (by omega)]
theorem stb_new {w : World} {b o : Nat} {cur new : Array Value} {vs : List Value} {t : TypeId} (h : w.heap[b]? = some (.cells cur t (0, 0))) (hs : new.size = cur.size) (hn : ∀ i, i < cur.size → new[i]? = if o ≤ i ∧ i < o + vs.length then vs[i - o]? else cur[i]?) :
    Stb b new t w (w.setCells b o vs) := by
  obtain ⟨n2, h1, h2, h3⟩ := stb_many b t vs o cur w h
  have e : new = n2 := by
    refine Array.ext (by omega) fun i h4 h5 => ?_
    have := (hn i (by omega)).trans (h3 i (by omega)).symm
    rw [Array.getElem?_eq_getElem h4, Array.getElem?_eq_getElem h5] at this
    exact Option.some.inj this
  rw [e]
  exact h1
theorem there_blk {w : World} {b o n : Nat} {cur : Array Value} {t : TypeId} (h : w.heap[b]? = some (.cells cur t (0, 0))) (hl : o + n ≤ cur.size) : w.there b o n := fun j hj =>
  ⟨by rw [blk_cell h, Array.getElem?_eq_getElem (by omega)]; rfl, blk_free h _⟩
theorem wp_store_blk {P : Program} {op : Oper} {a : Act} {w : World} {K : Act → World → Prop} {Q : Exit → Act → World → Prop} (ty : TypeId) (x y : Operand) (ho : op.op = .store ty x y)
    (b o : Nat) (cells : Array Value) (hx : a.eval x = .pointer (some ⟨b, o, none⟩)) (hy : a.eval y = .agg cells) (t : TypeId) (cur new : Array Value) (hg : w.heap[b]? = some (.cells cur t (0, 0)))
    (hl : o + cells.size ≤ cur.size) (hs : new.size = cur.size) (hn : ∀ i, i < cur.size → new[i]? = if o ≤ i ∧ i < o + cells.toList.length then cells.toList[i - o]? else cur[i]?) (hi : (P.info? ty).map (·.size) = some cells.size) (h1 : cells.all (·.oneCell') = true)
    (h : ∀ w', Stb b new t w w' → K (a.put op.dst undef) w') : op.wp P a w K Q :=
  wp_store_mid ty x y ho b o cells hx hy (there_blk hg hl) hi h1 (h _ (stb_new hg hs hn))
theorem wpList_store_blk {P : Program} {ops : Array Oper} {rest : List Oper} {op : Oper} {a : Act} {w : World} {Q : Exit → Act → World → Prop} (hgd : op.guard = none) (ty : TypeId) (x y : Operand) (ho : op.op = .store ty x y)
    (b o : Nat) (cells : Array Value) (hx : a.eval x = .pointer (some ⟨b, o, none⟩)) (hy : a.eval y = .agg cells) (t : TypeId) (cur new : Array Value) (hg : w.heap[b]? = some (.cells cur t (0, 0)))
    (hl : o + cells.size ≤ cur.size) (hs : new.size = cur.size) (hn : ∀ i, i < cur.size → new[i]? = if o ≤ i ∧ i < o + cells.toList.length then cells.toList[i - o]? else cur[i]?) (hi : (P.info? ty).map (·.size) = some cells.size) (h1 : cells.all (·.oneCell') = true)
    (h : ∀ w', Stb b new t w w' → wpList P ops Q rest (a.put op.dst undef) w') : wpList P ops Q (op :: rest) a w :=
  wpList_store_mid hgd ty x y ho b o cells hx hy (there_blk hg hl) hi h1 (h _ (stb_new hg hs hn))

theorem Tu.set {w w1 w' : World} {B b : Nat} {t : Tn} {p : Option Addr} {cap : Nat} {v : Value} (h : Tu w B b t p cap v) (hw : Below w.heap.size w w1) {e' : En} {r' : Bool} {p' : Option Addr} {cap' : Nat}
    (hs : Stb b (tcells ⟨e', t.sent, r'⟩ p' cap' v) 82 w1 w') (hn : NumsIn w1 p' e'.s.l) (hsep : e'.s.l ≠ [] → ∀ a, p' = some a → a.block ≠ b ∧ v.ownBlock ≠ some a.block ∧ B ≤ a.block) : TuGave w B b v ⟨e', t.sent, r'⟩ (.returned (.tuple #[])) w' := by
  obtain ⟨v', h1, h2, h3⟩ := h.turned hw hs.blk hs.other ⟨hs.os, hs.tape, hs.output, hs.size⟩ hn hsep
  exact ⟨⟨_, rfl⟩, p', cap', v', h1, h2, h3⟩
theorem TuGave.any {w : World} {B b : Nat} {v : Value} {t' : Tn} {r : Ending} {w' : World} (h : TuGave w B b v t' r w') (u : Value) : TuGave w B b v t' (.returned u) w' := ⟨⟨u, rfl⟩, h.2⟩

set_option maxRecDepth 100000 in
set_option maxHeartbeats 2000000 in
theorem leave_any {w : World} {B b : Nat} {t : Tn} {p : Option Addr} {cap : Nat} {v : Value} (h : Tu w B b t p cap v) (e : En) (pe : Option Addr) (ce : Nat) (m : Msg) (u : W8) :
    Calls Tryz.prog 90 #[qv e pe ce m u, .pointer (some ⟨b, 0, none⟩)] w (TuGave w B b v (leaveT e m t)) := by
  have K := Kp.box w (qcells e pe ce m u) 129
  have hc := K.1
  have h1 := h.step K.2.2
  by_cases ho : e.ow = m.fr
  · have hq : (e.ow != m.fr) = false := by simpa using ho
    have s1 := Stb.one h1.blk 0 (.int .i64 (-1))
    have s2 := Stb.one s1.blk 6 (.bool true)
    have f0 := blk_free h1.blk 0
    have f6 := blk_free s1.blk 6
    have c0 := blk_cell h1.blk 0
    have c6 := blk_cell s1.blk 6
    simp at c0 c6
    have R := Lib.hid (h.set K.2.2 (e' := ⟨-1, t.e.s⟩) (r' := true) (p' := p) (cap' := cap) (s1.trans s2) h1.nums h1.sep)
    have e1 : leaveT e m t = ⟨⟨-1, t.e.s⟩, t.sent, true⟩ := by unfold leaveT; rw [if_pos ho]
    rw [e1]
    clear h h1 ho s1 s2 e1
    go_enter Tryz.func90, Tryz.ntmps90
    go_wp2
    go_end0
    exact R.out.any _
  · have hq : (e.ow != m.fr) = true := by simpa using ho
    have e1 : leaveT e m t = t := by unfold leaveT; rw [if_neg ho]
    rw [e1]
    have R := Lib.hid (show TuGave w B b v t (.returned (.tuple #[])) _ from ⟨⟨_, rfl⟩, p, cap, v, h1, .of_below K.2.2, .refl _ _⟩)
    clear h h1 ho e1
    go_enter Tryz.func90, Tryz.ntmps90
    go_wp2
    go_end0
    exact R.out.any _

set_option maxRecDepth 100000 in
set_option maxHeartbeats 2000000 in
theorem share_any {w : World} {B b : Nat} {t : Tn} {p : Option Addr} {cap : Nat} {v : Value} (h : Tu w B b t p cap v) (e : En) (pe : Option Addr) (ce : Nat) (m : Msg) (u : W8) (hl : e.s.l.length ≤ 5000) (hn : NumsIn w pe e.s.l) :
    Calls Tryz.prog 84 #[qv e pe ce m u, .pointer (some ⟨b, 0, none⟩)] w (TuGave w B b v (shareT e m t)) := by
  have K := Kp.box w (qcells e pe ce m u) 129
  have hc := K.1
  have HN := Lib.hid hn
  rcases Bool.eq_false_or_eq_true e.free with hf | hf
  · have HF := Lib.hid hf
    have e1 : shareT e m t = ⟨⟨m.fr, t.e.s⟩, t.sent, t.wr⟩ := by unfold shareT; rw [if_pos hf]
    rw [e1]
    have H := Lib.hid h
    clear h hn hf e1
    go_enter Tryz.func84, Tryz.ntmps84
    go_wp2_with (go_at_call 117; refine (free_is HF.out pe ce _ (HN.out.step K.2.2) hl).mono ?_; rintro _ w1 ⟨rfl, hb1⟩; have K2 := K.step hb1; have hc2 := K2.1; have h2 := Lib.hid (H.out.step K2.2.2); have f0 := blk_free h2.out.blk 0; have c0 := blk_cell h2.out.blk 0; simp at c0; clear hc hb1)
    have R := H.out.set K2.2.2 (e' := ⟨m.fr, t.e.s⟩) (r' := t.wr) (p' := p) (cap' := cap) (Stb.one h2.out.blk 0 (.int .i64 m.fr)) h2.out.nums h2.out.sep
    go_end0
    exact R.any _
  · have HF := Lib.hid hf
    have e1 : shareT e m t = ⟨⟨t.e.ow, (addS e.s m.fr).1⟩, t.sent, t.wr⟩ := by unfold shareT; rw [if_neg (by rw [hf]; simp)]
    rw [e1]
    have H := Lib.hid h
    clear h hn hf e1
    go_enter Tryz.func84, Tryz.ntmps84
    go_wp2_with (first
      | (go_at_call 117; refine (free_is HF.out pe ce _ (HN.out.step K.2.2) hl).mono ?_; rintro _ w1 ⟨rfl, hb1⟩; have K2 := K.step hb1; have hc2 := K2.1; clear hc hb1)
      | (go_at_call 118; refine (add_any e.s pe ce m.fr _ (HN.out.step K2.2.2) hl).mono ?_; rintro _ w2 ⟨_, rfl, pa, ca, rfl, hi2, hb2, hf2⟩; generalize (addS e.s m.fr).1 = s' at *; have h3 := Lib.hid (H.out.step (bstep K2.2.2 hb2)); have HB2 := Lib.hid (bstep K2.2.2 hb2); have HI2 := Lib.hid hi2; have HF2 := Lib.hid (fun a ha => Nat.le_trans K2.2.2.size (hf2 a ha)); clear hi2 hf2 hb2 hc2 K2)
      | ((with_reducible refine wpList_store_blk (op := ⟨none, _, _, _, _, _⟩) rfl 63 (.tmp 27) (.tmp 23) rfl b 1 (sval s' pa ca) ?sx ?sy 82 (tcells t p cap v) (tcells ⟨⟨t.e.ow, s'⟩, t.sent, t.wr⟩ pa ca v) ?sg ?sl ?ss ?sn ?si ?s1 ?_); (case sx => rfl); (case sy => rfl); (case sg => exact h3.out.blk); (case sl => simp); (case ss => rfl); (case sn => (intro i hi; match i, hi with | 0, _ => rfl | 1, _ => rfl | 2, _ => rfl | 3, _ => rfl | 4, _ => rfl | 5, _ => rfl | 6, _ => rfl)); (case si => kernel_rfl); (case s1 => kernel_rfl); intro w3 hst))
    have R := H.out.set HB2.out (e' := ⟨t.e.ow, s'⟩) (r' := t.wr) (p' := pa) (cap' := ca) hst HI2.out (fun _ a ha => by have h5 := HF2.out a ha; have h6 := H.out.lt; exact ⟨by omega, fun e => by have := (H.out.row.lt _ e).2; omega, by have := H.out.big; omega⟩)
    go_end0
    exact R.any _

end Go.Proofs.YtpknfbgnclgpmaaGreatDoor.Sh

/-
  What is laid behind a write: whoever else may share the line is sent a message.
-/
namespace Go.Proofs.YtpknfbgnclgpmaaGreatDoor.Sh
open Go Go.RowKit Go.Sort

theorem others_len (e : En) (r : Int) : (e.others r).length ≤ 64 := by
  unfold En.others targetsS
  split
  · rename_i h
    have := pickS_len e.s.l e.s.al [r, e.ow] e.s.c.toNat
    have := (may_bounds h).2.1
    omega
  · simp
def invs (m : Msg) (L : List Int) : List Msg := L.map fun x => sendM m (invM m x)
theorem invs_len (m : Msg) (L : List Int) : (invs m L).length = L.length := by simp [invs]
theorem invs_succ (m : Msg) (L : List Int) (k : Nat) (hk : k < L.length) : invs m (L.take (k + 1)) = invs m (L.take k) ++ [sendM m (invM m (L.getD k 0))] := by
  unfold invs
  rw [List.take_add_one, List.map_append]
  congr 1
  simp [List.getElem?_eq_getElem hk, List.getD_eq_getElem?_getD]

/-- So many of the others have been sent their message. -/
structure Tk (w : World) (B b : Nat) (t : Tn) (v : Value) (A : Array Value) (pt : Option Addr) (L : List Int) (m : Msg) (k : Nat) (p' : Option Addr) (cap' : Nat) (v' : Value) (wr : World) : Prop where
  tu : Tu wr B b ⟨t.e, t.sent ++ invs m (L.take k), t.wr⟩ p' cap' v'
  chg : Chg b v w wr
  frs : Frs w v v'
  bx : ∀ o, wr.cell? ⟨w.heap.size, o, none⟩ = A[o]?
  lt : w.heap.size < wr.heap.size
  off : v'.ownBlock ≠ some w.heap.size
  nums : NumsIn wr pt L
  sep : L ≠ [] → ∀ a, pt = some a → a.block ≠ b ∧ v'.ownBlock ≠ some a.block
  bw : b < w.heap.size
theorem Tk.next {w : World} {B b : Nat} {t : Tn} {v : Value} {A : Array Value} {pt : Option Addr} {L : List Int} {m : Msg} {k : Nat} {p' : Option Addr} {cap' : Nat} {v' : Value} {wr w2 : World} {r : Ending} (h : Tk w B b t v A pt L m k p' cap' v' wr) (hk : k < L.length)
    (hg : TuGave wr B b v' (Tn.send ⟨t.e, t.sent ++ invs m (L.take k), t.wr⟩ m (invM m (L.getD k 0))) r w2) : ∃ p2 cap2 v2, Tk w B b t v A pt L m (k + 1) p2 cap2 v2 w2 := by
  obtain ⟨-, p2, cap2, v2, h1, h2, h3⟩ := hg
  have hg0 := h.lt
  have hbw := h.bw
  have hne : w.heap.size ≠ b := by omega
  refine ⟨p2, cap2, v2, ⟨?_, h.chg.trans h2 h.frs, h.frs.trans h3 h.chg.size, fun o => (World.cell?_of_block (a := ⟨w.heap.size, o, none⟩) (h2.other w.heap.size h.lt hne h.off)).trans (h.bx o), Nat.lt_of_lt_of_le h.lt h2.size, fun e => ?_, ?_, fun hl a ha => ?_, h.bw⟩⟩
  · rw [invs_succ m L k hk, ← List.append_assoc]
    exact h1
  · rcases h3 _ e with e | e
    · exact h.off e
    · omega
  · exact h.nums.keep h2.size fun hl a ha hlt => h2.other _ hlt (h.sep hl a ha).1 (h.sep hl a ha).2
  · refine ⟨(h.sep hl a ha).1, fun e => ?_⟩
    obtain ⟨g', off', e', hg', _⟩ := h.nums k hk
    rw [ha] at e'
    cases e'
    rcases h3 _ e with e | e
    · exact (h.sep hl _ ha).2 e
    · simp only at e; omega
theorem Tk.start {w w1 : World} {B b : Nat} {t : Tn} {p : Option Addr} {cap : Nat} {v : Value} (h : Tu w B b t p cap v) {A : Array Value} (K : Kp w A w1) {pt : Option Addr} {L : List Int} (m : Msg) (hn : NumsIn w1 pt L) (hf : ∀ a, pt = some a → w.heap.size ≤ a.block) : Tk w B b t v A pt L m 0 p cap v w1 := by
  have hb := h.lt
  refine ⟨?_, .of_below K.2.2, .refl _ _, K.1, K.2.1, fun e => by have := (h.row.lt _ e).2; omega, hn, fun _ a ha => ?_, hb⟩
  · have := h.step K.2.2
    simpa [invs] using this
  · have h1 := hf a ha
    exact ⟨by omega, fun e => by have := (h.row.lt _ e).2; omega⟩
theorem Tk.drew {w : World} {B b : Nat} {t : Tn} {v : Value} {A : Array Value} {pt : Option Addr} {L : List Int} {m : Msg} {k : Nat} {p' : Option Addr} {cap' : Nat} {v' : Value} {wr w2 : World} (h : Tk w B b t v A pt L m k p' cap' v' wr) (hb : Below wr.heap.size wr w2) : Tk w B b t v A pt L m k p' cap' v' w2 :=
  ⟨h.tu.step hb, h.chg.trans (.of_below hb) h.frs, h.frs, fun o => (hb.cell (p := ⟨w.heap.size, o, none⟩) h.lt).trans (h.bx o), Nat.lt_of_lt_of_le h.lt hb.size, h.off, h.nums.step hb, h.sep, h.bw⟩
/-- All of them are; who asked is the owner, and there are no sharers. -/
theorem Tk.finish {w : World} {B b : Nat} {t : Tn} {v : Value} {A : Array Value} {pt : Option Addr} {L : List Int} {m : Msg} {p' : Option Addr} {cap' : Nat} {v' : Value} {wr w2 w3 : World} {e' : En} {pq : Option Addr} {cq : Nat} (h : Tk w B b t v A pt L m L.length p' cap' v' wr)
    (hb : Below wr.heap.size wr w2) (hs : Stb b (tcells ⟨e', t.sent ++ invs m L, t.wr⟩ pq cq v') 82 w2 w3) (hn : NumsIn w2 pq e'.s.l) (hf : ∀ a, pq = some a → wr.heap.size ≤ a.block) (u : Value) : TuGave w B b v ⟨e', t.sent ++ invs m L, t.wr⟩ (.returned u) w3 := by
  have h1 := h.tu
  rw [List.take_length] at h1
  obtain ⟨-, p2, c2, v2, h2, h3, h4⟩ := h1.set hb (e' := e') (r' := t.wr) hs hn (fun _ a ha => by have h5 := hf a ha; have h6 := h1.lt; exact ⟨by omega, fun e => by have := (h1.row.lt _ e).2; omega, by have := h1.big; omega⟩)
  exact ⟨⟨u, rfl⟩, p2, c2, v2, h2, h.chg.trans h3 h.frs, h.frs.trans h4 h.chg.size⟩

set_option maxRecDepth 100000 in
set_option maxHeartbeats 4000000 in
theorem take_any {w : World} {B b : Nat} {t : Tn} {p : Option Addr} {cap : Nat} {v : Value} (h : Tu w B b t p cap v) (e : En) (pe : Option Addr) (ce : Nat) (m : Msg) (u : W8) (hB : B ≤ w.heap.size) (hs : t.sent.length ≤ 100) (hl : e.s.l.length ≤ 5000) (hn : NumsIn w pe e.s.l) :
    Calls Tryz.prog 88 #[qv e pe ce m u, .pointer (some ⟨b, 0, none⟩)] w (TuGave w B b v (takeT e m t)) := by
  have K := Kp.box w (qcells e pe ce m u) 129
  have hc := K.1
  have HO := Lib.hid (others_fresh e pe ce m u _ hl (hn.step K.2.2))
  have hle := others_len e m.fr
  have HT : Hid (takeT e m t = ⟨⟨m.fr, (newS e.s.c e.s.m).1⟩, t.sent ++ invs m (e.others m.fr), t.wr⟩) := Lib.hid rfl
  generalize e.others m.fr = L at *
  have HS := Lib.hid hs
  have HC := Lib.hid (fun w => clear_any e.s pe e.s.l.length ce w)
  have H := Lib.hid h
  clear h hn hs
  go_enter Tryz.func88, Tryz.ntmps88
  go_wp2_with (first
    | ((with_reducible refine wpList_load_at (op := ⟨some 6, _, _, _, _, _⟩) rfl 129 (.tmp 2) rfl w.heap.size 0 ?sx (qcells e pe ce m u) _ ?sc Tryz.underlying129 ?sd ?si ?_); (case sx => rfl); (case sc => exact range_of hc); (case sd => rfl); (case si => kernel_rfl))
    | (go_at_call 119; refine HO.out.mono ?_; rintro _ w1 ⟨pt, ct, rfl, hi1, hb1, hf1⟩; have K2 := K.step hb1; have T0 := Tk.start H.out K2 m hi1 (fun a ha => Nat.le_trans K.2.2.size (hf1 a ha)); have hbw := T0.bw; clear hc hb1 hi1 hf1 K2 K))
  go_loopw [9] (fun i wr => ∃ k : Nat, k ≤ L.length ∧ i = .int .i64 k ∧ ∃ p' cap' v', Tk w B b t v (qcells e pe ce m u) pt L m k p' cap' v' wr) (fun i _ => L.length - (intOf i).toNat)
  case atStart => exact ⟨0, Nat.zero_le _, rfl, _, _, _, T0⟩
  case round =>
    obtain ⟨k, hk, rfl, p', cap', v', T1⟩ := hrel
    clear T0
    have hc1 := T1.bx
    have hlt1 := T1.lt
    by_cases hlt : k < L.length
    · obtain ⟨g, off, rfl, hg, hcx⟩ := T1.nums k hlt
      obtain ⟨x, hx⟩ : ∃ x, x = L.getD k 0 := ⟨_, rfl⟩
      rw [← hx] at hcx
      have HG := Lib.hid (fun r w2 (hg : TuGave wr B b v' (Tn.send ⟨t.e, t.sent ++ invs m (L.take k), t.wr⟩ m (invM m x)) r w2) => T1.next hlt (hx ▸ hg))
      have HX : Hid _ := Lib.hid (send_any T1.tu e pe ce m u (invM m x) (Nat.le_trans hB T1.chg.size) (by have := HS.out; simp only [List.length_append, invs_len, List.length_take]; omega))
      clear hx T1
      go_wp2_with (first
        | ((with_reducible refine wpList_load_at (op := ⟨some 13, _, _, _, _, _⟩) rfl 129 (.tmp 2) rfl w.heap.size 0 ?sx (qcells e pe ce m u) _ ?sc Tryz.underlying129 ?sd ?si ?_); (case sx => rfl); (case sc => exact range_of hc1); (case sd => rfl); (case si => kernel_rfl))
        | (go_at_call 56; refine HX.out.mono ?_; rintro _ w2 hg2; obtain ⟨p2, cap2, v2, T2⟩ := HG.out _ _ hg2; obtain ⟨⟨u2, rfl⟩, -⟩ := hg2; clear hc1))
      go_roundw
      case rel => exact ⟨k + 1, by omega, by go_num, p2, cap2, v2, T2⟩
      case measure => simp [intOf]; omega
    · have hke : k = L.length := by omega
      subst hke
      have TD := T1.drew (below_drew _)
      have hcD := TD.bx
      have HD := Lib.hid TD
      have hbD := TD.tu.blk
      rw [List.take_length] at hbD
      have HB := Lib.hid hbD
      clear T1 TD hc1 hbD
      go_wp2_with fail
      refine wp_region_noPanic ?_
      refine wp_region_held_drew (S := fun w' => ∀ o, w'.cell? ⟨w.heap.size, o, none⟩ = (qcells e pe ce m u)[o]?) (by kernel_rfl) hcD (fun hh => ?_)
      refine wpAnyH_take (fuel := 11) (i := 0) (oi := ⟨some 22, _, _, _, _, _⟩) (v := .pointer (some ⟨b, 0, none⟩)) rfl (by kernel_rfl) (by kernel_rfl) (by kernel_rfl) (fun _ _ _ h => h) (Or.inl ⟨by rfl, ?_⟩) hh ?_
      · intro w' _
        go_simp
      simp only [Act.put, List.setIfInBounds_toArray, List.set_cons_zero, List.set_cons_succ]
      refine wpAnyH_take (fuel := 10) (i := 1) (oi := ⟨some 23, _, _, _, _, _⟩) (v := .pointer (some ⟨w.heap.size, 5, none⟩)) rfl (by kernel_rfl) (by kernel_rfl) (by kernel_rfl) (fun _ _ _ h => h) (Or.inl ⟨by rfl, ?_⟩) hh ?_
      · intro w' _
        go_simp
      simp only [Act.put, List.setIfInBounds_toArray, List.set_cons_zero, List.set_cons_succ]
      refine wpAnyH_take (fuel := 9) (i := 2) (oi := ⟨some 24, _, _, _, _, _⟩) (v := .pointer (some ⟨w.heap.size, 7, none⟩)) rfl (by kernel_rfl) (by kernel_rfl) (by kernel_rfl) (fun _ _ _ h => h) (Or.inl ⟨by rfl, ?_⟩) hh ?_
      · intro w' _
        go_simp
      simp only [Act.put, List.setIfInBounds_toArray, List.set_cons_zero, List.set_cons_succ]
      refine wpAnyH_take (fuel := 8) (i := 3) (oi := ⟨some 25, _, _, _, _, _⟩) (v := .int .i64 m.fr) rfl (by kernel_rfl) (by kernel_rfl) (by kernel_rfl) (fun _ _ _ h => h) (Or.inl ⟨by rfl, ?_⟩) hh ?_
      · rintro w' c0
        go_simp
      simp only [Act.put, List.setIfInBounds_toArray, List.set_cons_zero, List.set_cons_succ]
      refine wpAnyH_take (fuel := 7) (i := 4) (oi := ⟨some 26, _, _, _, _, _⟩) (v := .pointer (some ⟨w.heap.size, 0, none⟩)) rfl (by kernel_rfl) (by kernel_rfl) (by kernel_rfl) (fun _ _ _ h => h) (Or.inl ⟨by rfl, ?_⟩) hh ?_
      · intro w' _
        go_simp
      simp only [Act.put, List.setIfInBounds_toArray, List.set_cons_zero, List.set_cons_succ]
      refine wpAnyH_take (fuel := 6) (i := 5) (oi := ⟨some 27, _, _, _, _, _⟩) (v := .pointer (some ⟨w.heap.size, 1, none⟩)) rfl (by kernel_rfl) (by kernel_rfl) (by kernel_rfl) (fun _ _ _ h => h) (Or.inl ⟨by rfl, ?_⟩) hh ?_
      · intro w' _
        go_simp
      simp only [Act.put, List.setIfInBounds_toArray, List.set_cons_zero, List.set_cons_succ]
      refine wpAnyH_take (fuel := 5) (i := 6) (oi := ⟨some 28, _, _, _, _, _⟩) (v := .agg (sval e.s pe ce)) rfl (by kernel_rfl) (by kernel_rfl) (by kernel_rfl) (fun _ _ _ h => h) (Or.inl ⟨by rfl, ?_⟩) hh ?_
      · rintro w' c0
        go_simp
      simp only [Act.put, List.setIfInBounds_toArray, List.set_cons_zero, List.set_cons_succ]
      refine wpAnyH_ready (fuel := 4) (rs := [7]) (by kernel_rfl) (by simp) ?_
      refine AllReadyH.cons (o := ⟨some 29, _, _, _, _, _⟩) rfl (fun K hK => ?_) AllReadyH.nil
      go_simp
      refine (HC.out _).mono ?_
      rintro _ w2 ⟨_, rfl, pq, cq, rfl, hi2, hb2, hf2⟩
      have T2 := HD.out.drew hb2
      generalize (newS e.s.c e.s.m).1 = s' at *
      show K _ _
      refine hK.out _ _ (T2.bx) (fun hh2 => ?_)
      clear hK K hh
      try simp only [Act.put, List.setIfInBounds_toArray, List.set_cons_zero, List.set_cons_succ]
      refine wpAnyH_take (fuel := 3) (i := 8) (oi := ⟨some 30, _, _, _, _, _⟩) (v := .agg #[.int .i64 m.fr, .int .i64 s'.c, .int .i64 s'.m, .slice pq s'.l.length cq, .bool s'.al]) rfl (by kernel_rfl) (by kernel_rfl) (by kernel_rfl) (fun _ _ _ h => h) (Or.inl ⟨by rfl, ?_⟩) hh2 ?_
      · intro w' _
        go_simp
      simp only [Act.put, List.setIfInBounds_toArray, List.set_cons_zero, List.set_cons_succ]
      refine wpAnyH_take (fuel := 2) (i := 9) (oi := ⟨some 31, _, _, _, _, _⟩) (v := .pointer (some ⟨b, 0, none⟩)) rfl (by kernel_rfl) (by kernel_rfl) (by kernel_rfl) (fun _ _ _ h => h) (Or.inl ⟨by rfl, ?_⟩) hh2 ?_
      · intro w' _
        go_simp
      simp only [Act.put, List.setIfInBounds_toArray, List.set_cons_zero, List.set_cons_succ]
      refine wpAnyH_take (fuel := 1) (i := 10) (oi := ⟨some 32, _, _, _, _, _⟩) (v := .pointer (some ⟨b, 0, none⟩)) rfl (by kernel_rfl) (by kernel_rfl) (by kernel_rfl) (fun _ _ _ h => h) (Or.inl ⟨by rfl, ?_⟩) hh2 ?_
      · intro w' _
        go_simp
      simp only [Act.put, List.setIfInBounds_toArray, List.set_cons_zero, List.set_cons_succ]
      refine wpAnyH_ready (fuel := 0) (rs := [11]) (by kernel_rfl) (by simp) ?_
      refine AllReadyH.cons (o := ⟨none, _, _, _, _, _⟩) rfl (fun K hK => ?_) AllReadyH.nil
      rw [if_pos (by rfl)]
      have hb3 := T2.tu.blk
      rw [List.take_length] at hb3
      refine wp_store_blk 65 (.tmp 32) (.tmp 30) rfl b 0 #[.int .i64 m.fr, .int .i64 s'.c, .int .i64 s'.m, .slice pq s'.l.length cq, .bool s'.al] rfl rfl 82 (tcells ⟨t.e, t.sent ++ invs m L, t.wr⟩ p' cap' v') (tcells ⟨⟨m.fr, s'⟩, t.sent ++ invs m L, t.wr⟩ pq cq v') hb3 (by simp) rfl (by intro i hi; match i, hi with | 0, _ => rfl | 1, _ => rfl | 2, _ => rfl | 3, _ => rfl | 4, _ => rfl | 5, _ => rfl | 6, _ => rfl) (by kernel_rfl) (by kernel_rfl) (fun w3 hst => ?_)
      have hc3 : ∀ o, w3.cell? ⟨w.heap.size, o, none⟩ = (qcells e pe ce m u)[o]? := fun o => (World.cell?_of_block (a := ⟨w.heap.size, o, none⟩) (hst.other w.heap.size (by omega))).trans (T2.bx o)
      refine hK.out _ _ hc3 (fun hh3 => ?_)
      clear hK K hh2
      simp only [Act.put]
      refine wpAnyH_done (by kernel_rfl) ?_ _
      refine NoPanic.normal ?_
      clear hh3
      have R := HD.out.finish hb2 hst hi2 hf2
      have HR := Lib.hid R
      clear hc3 hst hi2 hf2 hb2 T2 R hb3
      go_wp2_with fail
      go_end0
      rw [HT.out]
      exact HR.out _

end Go.Proofs.YtpknfbgnclgpmaaGreatDoor.Sh
