/-
  What a home does with a request, in plain words.
-/
import Derived.Test.YtfnemldjhfcalaaShH
import Derived.Test.YtfnemldjhfcalaaShM
import Derived.Test.YtfnemldjhfcalaaMsZ
namespace Go.Proofs.Ytfnemldjhfcalaa
open Go Go.RowKit Go.Sort

/-- What a home knows of a line: its owner, or -1, and its sharers. -/
structure En where
  ow : Int
  s : St
/-- Eight words. -/
structure W8 where
  w0 : Int
  w1 : Int
  w2 : Int
  w3 : Int
  w4 : Int
  w5 : Int
  w6 : Int
  w7 : Int
/-- What comes of a request: an entry, messages, and whether the memory is written. -/
structure Tn where
  e : En
  sent : List Msg
  wr : Bool

def zE : En := ⟨0, z0⟩
def zT : Tn := ⟨zE, [], false⟩
def En.may (e : En) : Bool := e.s.may && (e.ow == -1 || hasB e.s.c e.ow)
def En.free (e : En) : Bool := e.ow == -1 && (((targetsS e.s []).length : Int) == 0)
def newE (c m : Int) : En × Int := if mayB c m [] false then (⟨-1, ⟨c, m, [], false⟩⟩, 0) else (zE, 1)
/-- Who else may share the line. -/
def En.others (e : En) (r : Int) : List Int := targetsS e.s [r, e.ow]
/-- A message that is sent first, or then; its line and its sender are set when it is sent. -/
def bareM (kd to wh ac ow : Int) : Msg := ⟨kd, 0, 0, to, wh, ac, ow, 0, 0, 0, 0, 0, 0, 0, 0⟩
def fullM (kd to ac ow : Int) (v : W8) : Msg := ⟨kd, 0, 0, to, 0, ac, ow, v.w0, v.w1, v.w2, v.w3, v.w4, v.w5, v.w6, v.w7⟩
def readM (e : En) (m : Msg) (v : W8) : Msg := fullM 7 m.fr 0 (if e.free then 2 else 1) v
def fwdS (e : En) (m : Msg) : Msg := bareM 4 e.ow m.fr 0 0
def wrtM (e : En) (m : Msg) (v : W8) : Msg := fullM 7 m.fr (e.others m.fr).length 4 v
def fwdM (e : En) (m : Msg) : Msg := bareM 5 e.ow m.fr (e.others m.fr).length 0
def grtM (e : En) (m : Msg) : Msg := bareM 8 m.fr 0 (e.others m.fr).length 0
def ackM (m : Msg) : Msg := bareM 10 m.fr 0 0 0
def invM (m : Msg) (x : Int) : Msg := bareM 6 x m.fr 0 0
/-- As it is sent. -/
def sendM (m x : Msg) : Msg := ⟨x.kd, m.ln, m.to, x.to, x.wh, x.ac, x.ow, x.w0, x.w1, x.w2, x.w3, x.w4, x.w5, x.w6, x.w7⟩
def Tn.send (t : Tn) (m x : Msg) : Tn := ⟨t.e, t.sent ++ [sendM m x], t.wr⟩
def shareT (e : En) (m : Msg) (t : Tn) : Tn := if e.free then ⟨⟨m.fr, t.e.s⟩, t.sent, t.wr⟩ else ⟨⟨t.e.ow, (addS e.s m.fr).1⟩, t.sent, t.wr⟩
def takeT (e : En) (m : Msg) (t : Tn) : Tn := ⟨⟨m.fr, (newS e.s.c e.s.m).1⟩, t.sent ++ (e.others m.fr).map (fun x => sendM m (invM m x)), t.wr⟩
def leaveT (e : En) (m : Msg) (t : Tn) : Tn := if e.ow = m.fr then ⟨⟨-1, t.e.s⟩, t.sent, true⟩ else t
/-- What there is ahead of what a turn sends. -/
def baseT (e : En) : Tn := ⟨e, [], false⟩
def isReq (k : Int) : Bool := k == 1 || (k == 2 || k == 3)
def goodQ (e : En) (m : Msg) : Bool := e.may && (isReq m.kd && hasB e.s.c m.fr)
def nextT (e : En) (m : Msg) (v : W8) : Tn × Int :=
  if goodQ e m = false then (zT, 1)
  else if m.kd = 1 then (if e.ow = -1 then (shareT e m ((baseT e).send m (readM e m v)), 0) else if e.ow = m.fr then (zT, 7) else (shareT e m ((baseT e).send m (fwdS e m)), 0))
  else if m.kd = 2 then (if e.ow = -1 then (takeT e m ((baseT e).send m (wrtM e m v)), 0) else if e.ow = m.fr then (takeT e m ((baseT e).send m (grtM e m)), 0) else (takeT e m ((baseT e).send m (fwdM e m)), 0))
  else (leaveT e m ((baseT e).send m (ackM m)), 0)

theorem good_all {e : En} {m : Msg} (h : goodQ e m = true) : e.may = true ∧ isReq m.kd = true ∧ hasB e.s.c m.fr = true := by
  simpa [goodQ] using h
theorem may_parts {e : En} (h : e.may = true) : e.s.may = true ∧ -1 ≤ e.ow ∧ e.ow < e.s.c := by
  simp only [En.may, Bool.and_eq_true, Bool.or_eq_true, beq_iff_eq, hasB, decide_eq_true_eq] at h
  have h1 := h.1
  obtain ⟨hc, -⟩ := may_bounds h1
  refine ⟨h1, ?_, ?_⟩ <;> rcases h.2 with h2 | h2 <;> omega

abbrev ecells (e : En) (p : Option Addr) (cap : Nat) : Array Value := #[.int .i64 e.ow, .int .i64 e.s.c, .int .i64 e.s.m, .slice p e.s.l.length cap, .bool e.s.al]
abbrev ev (e : En) (p : Option Addr) (cap : Nat) : Value := .agg (ecells e p cap)
abbrev wcells (v : W8) : Array Value := #[.int .i64 v.w0, .int .i64 v.w1, .int .i64 v.w2, .int .i64 v.w3, .int .i64 v.w4, .int .i64 v.w5, .int .i64 v.w6, .int .i64 v.w7]
/-- An asking's cells: an entry, a request, words. -/
abbrev qcells (e : En) (p : Option Addr) (cap : Nat) (m : Msg) (v : W8) : Array Value :=
  #[.int .i64 e.ow, .int .i64 e.s.c, .int .i64 e.s.m, .slice p e.s.l.length cap, .bool e.s.al,
    .int .i64 m.kd, .int .i64 m.ln, .int .i64 m.fr, .int .i64 m.to, .int .i64 m.wh, .int .i64 m.ac, .int .i64 m.ow, .int .i64 m.w0, .int .i64 m.w1, .int .i64 m.w2, .int .i64 m.w3, .int .i64 m.w4, .int .i64 m.w5, .int .i64 m.w6, .int .i64 m.w7,
    .int .i64 v.w0, .int .i64 v.w1, .int .i64 v.w2, .int .i64 v.w3, .int .i64 v.w4, .int .i64 v.w5, .int .i64 v.w6, .int .i64 v.w7]
abbrev qv (e : En) (p : Option Addr) (cap : Nat) (m : Msg) (v : W8) : Value := .agg (qcells e p cap m v)

end Go.Proofs.Ytfnemldjhfcalaa
