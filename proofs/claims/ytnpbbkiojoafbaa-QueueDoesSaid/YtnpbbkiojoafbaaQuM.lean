/-
  A queue of requests in plain words: what each call answers and makes of the entries, and what holds of them all. No program is spoken of here.
-/
import Derived.Test.YtnpbbkiojoafbaaRows
import Derived.Test.YtnpbbkiojoafbaaMsZ
import Derived.WalkKit
import Derived.Lib.Hide
namespace Go.Proofs.Ytnpbbkiojoafbaa
open Go Go.RowKit

/-! Messages. -/
def Msg.toL (m : Msg) : List Int := [m.kd, m.ln, m.fr, m.to, m.wh, m.ac, m.ow, m.w0, m.w1, m.w2, m.w3, m.w4, m.w5, m.w6, m.w7]
theorem Msg.ext' {x y : Msg} (h : x.toL = y.toL) : x = y := by
  cases x; cases y
  simp only [Msg.toL, List.cons.injEq, and_true] at h
  obtain ⟨h0, h1, h2, h3, h4, h5, h6, h7, h8, h9, h10, h11, h12, h13, h14⟩ := h
  subst h0 h1 h2 h3 h4 h5 h6 h7 h8 h9 h10 h11 h12 h13 h14
  rfl
instance : DecidableEq Msg := fun x y => decidable_of_iff (x.toL = y.toL) ⟨Msg.ext', fun h => by rw [h]⟩
def z0 : Msg := ⟨0, 0, 0, 0, 0, 0, 0, 0, 0, 0, 0, 0, 0, 0, 0⟩
def mg (m : Msg) : List Value := (mcells m).toList
theorem mg_len (m : Msg) : (mg m).length = 15 := rfl

/-- An entry; an entry as it lies in memory, with where its messages are; an operation. -/
structure En where
  m : Msg
  st : Bool
  l : List Msg
theorem En.ext' {x y : En} (h1 : x.m = y.m) (h2 : x.st = y.st) (h3 : x.l = y.l) : x = y := by cases x; cases y; subst h1 h2 h3; rfl
instance : DecidableEq En := fun x y => decidable_of_iff (x.m = y.m ∧ x.st = y.st ∧ x.l = y.l) ⟨fun ⟨a, b, c⟩ => En.ext' a b c, fun h => by rw [h]; exact ⟨rfl, rfl, rfl⟩⟩
structure Ep where
  m : Msg
  st : Bool
  l : List Msg
  p : Option Addr
  c : Nat
def Ep.pl (x : Ep) : En := ⟨x.m, x.st, x.l⟩
structure Qo where
  k : Int
  n : Int
  m : Msg
  l : List Msg
  p : Option Addr
  c : Nat
def e0 : Ep := ⟨z0, false, [], none, 0⟩
def n0 : En := ⟨z0, false, []⟩
abbrev ecells (x : Ep) : Array Value := #[.int .i64 x.m.kd, .int .i64 x.m.ln, .int .i64 x.m.fr, .int .i64 x.m.to, .int .i64 x.m.wh, .int .i64 x.m.ac, .int .i64 x.m.ow, .int .i64 x.m.w0, .int .i64 x.m.w1, .int .i64 x.m.w2, .int .i64 x.m.w3, .int .i64 x.m.w4, .int .i64 x.m.w5, .int .i64 x.m.w6, .int .i64 x.m.w7, .bool x.st, .slice x.p x.l.length x.c]
abbrev ocells (x : Qo) : Array Value := #[.int .i64 x.k, .int .i64 x.n, .int .i64 x.m.kd, .int .i64 x.m.ln, .int .i64 x.m.fr, .int .i64 x.m.to, .int .i64 x.m.wh, .int .i64 x.m.ac, .int .i64 x.m.ow, .int .i64 x.m.w0, .int .i64 x.m.w1, .int .i64 x.m.w2, .int .i64 x.m.w3, .int .i64 x.m.w4, .int .i64 x.m.w5, .int .i64 x.m.w6, .int .i64 x.m.w7, .slice x.p x.l.length x.c]
def ec (x : Ep) : List Value := (ecells x).toList
theorem ec_len (x : Ep) : (ec x).length = 17 := rfl
def oc (x : Qo) : List Value := (ocells x).toList
theorem oc_len (x : Qo) : (oc x).length = 18 := rfl

def oi : Option Nat → Int
  | some k => k
  | none => -1
def rq (k : Int) : Bool := !(k != 1 && k != 2 && k != 3)
def isL (ln : Int) (x : En) : Bool := x.m.ln == ln
def sentAll (x : En) : Bool := x.st && x.l.isEmpty
def isF (ln fr : Int) (x : En) : Bool := x.m.ln == ln && x.m.fr == fr && x.m.kd != 3 && sentAll x
/-- Which entry is at a place. -/
def inn (l : List En) (at_ : Int) : Option (Nat × En) := if 0 ≤ at_ then (l[at_.toNat]?).map fun x => (at_.toNat, x) else none
def rdy (l : List En) (at_ : Int) : Bool := match inn l at_ with
  | none => false
  | some (i, x) => !x.st && l.findIdx? (isL x.m.ln) == some i
def addP (room : Int) (l : List En) (m : Msg) : Int × List En :=
  if rq m.kd = false then (1, l) else if (l.length : Int) = room then (4, l) else (0, l ++ [⟨m, false, []⟩])
def startP (l : List En) (at_ : Int) (s : List Msg) : Int × List En := match inn l at_ with
  | none => (5, l)
  | some (i, x) => if rdy l at_ = false ∨ s = [] then (7, l) else (0, l.set i ⟨x.m, true, s⟩)
def nextP (l : List En) (at_ : Int) : Msg × Bool := match inn l at_ with
  | none => (z0, false)
  | some (_, x) => match x.l with
    | [] => (z0, false)
    | m :: _ => (m, true)
def sentP (l : List En) (at_ : Int) : Int × List En := match inn l at_ with
  | none => (5, l)
  | some (i, x) => match x.l with
    | [] => (7, l)
    | _ :: r => if r = [] ∧ x.m.kd = 3 then (0, l.eraseIdx i) else (0, l.set i ⟨x.m, x.st, r⟩)
def finP (l : List En) (ln fr : Int) : Int × List En := match l.findIdx? (isF ln fr) with
  | none => (7, l)
  | some i => (0, l.eraseIdx i)
def getP (l : List En) (at_ : Int) : En × Bool := match inn l at_ with
  | none => (n0, false)
  | some (_, x) => (x, true)
def doP (room : Int) (l : List En) (x : Qo) : (Msg × Bool × Int) × List En :=
  if x.k = 0 then ((z0, false, (addP room l x.m).1), (addP room l x.m).2)
  else if x.k = 1 then ((z0, false, (startP l x.n x.l).1), (startP l x.n x.l).2)
  else if x.k = 2 then (((nextP l x.n).1, (nextP l x.n).2, (sentP l x.n).1), (sentP l x.n).2)
  else ((z0, false, (finP l x.m.ln x.m.fr).1), (finP l x.m.ln x.m.fr).2)

/-! Where an entry is. -/
theorem inn_out {l : List En} {a : Int} (h : a < 0 ∨ (l.length : Int) ≤ a) : inn l a = none := by
  unfold inn
  rcases h with h | h
  · rw [if_neg (by omega)]
  · by_cases h0 : 0 ≤ a
    · rw [if_pos h0, List.getElem?_eq_none (by omega)]; rfl
    · rw [if_neg h0]
theorem inn_at {l : List En} {i : Nat} {x : En} (h : l[i]? = some x) : inn l (i : Int) = some (i, x) := by
  unfold inn
  rw [if_pos (by omega), Int.toNat_natCast, h]; rfl
theorem inn_cases (l : List En) (a : Int) : (a < 0 ∨ (l.length : Int) ≤ a) ∨ ∃ (i : Nat) (x : En), a = i ∧ l[i]? = some x := by
  by_cases h : 0 ≤ a ∧ a < l.length
  · right
    refine ⟨a.toNat, l[a.toNat]'(by omega), by omega, List.getElem?_eq_getElem _⟩
  · left; omega
theorem find_none {α : Type} {p : α → Bool} {l : List α} (h : ∀ (j : Nat) (x : α), l[j]? = some x → p x = false) : l.findIdx? p = none := by
  rw [List.findIdx?_eq_none_iff]
  intro x hx
  obtain ⟨j, hj, rfl⟩ := List.getElem_of_mem hx
  exact h j _ (List.getElem?_eq_getElem hj)
theorem find_some {α : Type} {p : α → Bool} {l : List α} {k : Nat} {x : α} (hk : l[k]? = some x) (hx : p x = true) (h : ∀ (j : Nat) (y : α), j < k → l[j]? = some y → p y = false) : l.findIdx? p = some k := by
  obtain ⟨hl, rfl⟩ := List.getElem?_eq_some_iff.1 hk
  rw [List.findIdx?_eq_some_iff_getElem]
  refine ⟨hl, hx, fun j hj => ?_⟩
  have := h j _ hj (List.getElem?_eq_getElem (by omega))
  simpa using this
theorem find_at {α : Type} {p : α → Bool} {l : List α} {i : Nat} (h : l.findIdx? p = some i) : ∃ x, l[i]? = some x ∧ p x = true ∧ i < l.length := by
  obtain ⟨hi, hx, _⟩ := List.findIdx?_eq_some_iff_getElem.1 h
  exact ⟨_, List.getElem?_eq_getElem hi, hx, hi⟩
theorem rdy_out {l : List En} {a : Int} (h : a < 0 ∨ (l.length : Int) ≤ a) : rdy l a = false := by unfold rdy; rw [inn_out h]
theorem rdy_at {l : List En} {i : Nat} {x : En} (h : l[i]? = some x) : rdy l (i : Int) = (!x.st && l.findIdx? (isL x.m.ln) == some i) := by unfold rdy; rw [inn_at h]
theorem addP_kind {room : Int} {l : List En} {m : Msg} (h : rq m.kd = false) : addP room l m = (1, l) := by unfold addP; rw [if_pos h]
theorem addP_full {room : Int} {l : List En} {m : Msg} (h : rq m.kd = true) (hl : (l.length : Int) = room) : addP room l m = (4, l) := by unfold addP; rw [if_neg (by simp [h]), if_pos hl]
theorem addP_yes {room : Int} {l : List En} {m : Msg} (h : rq m.kd = true) (hl : ¬ (l.length : Int) = room) : addP room l m = (0, l ++ [⟨m, false, []⟩]) := by unfold addP; rw [if_neg (by simp [h]), if_neg hl]
theorem startP_out {l : List En} {a : Int} {s : List Msg} (h : a < 0 ∨ (l.length : Int) ≤ a) : startP l a s = (5, l) := by unfold startP; rw [inn_out h]
theorem startP_no {l : List En} {i : Nat} {x : En} {s : List Msg} (h : l[i]? = some x) (hr : rdy l i = false ∨ s = []) : startP l i s = (7, l) := by unfold startP; rw [inn_at h]; simp only; rw [if_pos hr]
theorem startP_yes {l : List En} {i : Nat} {x : En} {s : List Msg} (h : l[i]? = some x) (hr : rdy l i = true) (hs : s ≠ []) : startP l i s = (0, l.set i ⟨x.m, true, s⟩) := by unfold startP; rw [inn_at h]; simp only; rw [if_neg (by simp [hr, hs])]
theorem nextP_out {l : List En} {a : Int} (h : a < 0 ∨ (l.length : Int) ≤ a) : nextP l a = (z0, false) := by unfold nextP; rw [inn_out h]
theorem nextP_no {l : List En} {i : Nat} {x : En} (h : l[i]? = some x) (hs : x.l = []) : nextP l i = (z0, false) := by unfold nextP; rw [inn_at h]; simp only [hs]
theorem nextP_yes {l : List En} {i : Nat} {x : En} {m : Msg} {r : List Msg} (h : l[i]? = some x) (hs : x.l = m :: r) : nextP l i = (m, true) := by unfold nextP; rw [inn_at h]; simp only [hs]
theorem sentP_out {l : List En} {a : Int} (h : a < 0 ∨ (l.length : Int) ≤ a) : sentP l a = (5, l) := by unfold sentP; rw [inn_out h]
theorem sentP_no {l : List En} {i : Nat} {x : En} (h : l[i]? = some x) (hs : x.l = []) : sentP l i = (7, l) := by unfold sentP; rw [inn_at h]; simp only [hs]
theorem sentP_gone {l : List En} {i : Nat} {x : En} {m : Msg} (h : l[i]? = some x) (hs : x.l = [m]) (hk : x.m.kd = 3) : sentP l i = (0, l.eraseIdx i) := by unfold sentP; rw [inn_at h]; simp [hs, hk]
theorem sentP_yes {l : List En} {i : Nat} {x : En} {m : Msg} {r : List Msg} (h : l[i]? = some x) (hs : x.l = m :: r) (hk : ¬ (r = [] ∧ x.m.kd = 3)) : sentP l i = (0, l.set i ⟨x.m, x.st, r⟩) := by unfold sentP; rw [inn_at h]; simp only [hs]; rw [if_neg hk]
theorem finP_none {l : List En} {ln fr : Int} (h : l.findIdx? (isF ln fr) = none) : finP l ln fr = (7, l) := by unfold finP; rw [h]
theorem finP_some {l : List En} {ln fr : Int} {i : Nat} (h : l.findIdx? (isF ln fr) = some i) : finP l ln fr = (0, l.eraseIdx i) := by unfold finP; rw [h]
theorem getP_out {l : List En} {a : Int} (h : a < 0 ∨ (l.length : Int) ≤ a) : getP l a = (n0, false) := by unfold getP; rw [inn_out h]
theorem getP_at {l : List En} {i : Nat} {x : En} (h : l[i]? = some x) : getP l i = (x, true) := by unfold getP; rw [inn_at h]

/-! What holds of them all: so many messages at most; only what is started has some. -/
structure Good (room : Int) (l : List En) : Prop where
  r1 : 1 ≤ room
  r2 : room ≤ 16
  len : (l.length : Int) ≤ room
  few : ∀ x ∈ l, x.l.length ≤ 500
  off : ∀ x ∈ l, x.l ≠ [] → x.st = true
theorem Good.short {room : Int} {l : List En} (h : Good room l) : l.length ≤ 16 := by have := h.len; have := h.r2; omega
theorem Good.new {room : Int} (h1 : 1 ≤ room) (h2 : room ≤ 16) : Good room [] := ⟨h1, h2, by simp; omega, fun x hx => (by cases hx), fun x hx => (by cases hx)⟩
theorem Good.erase {room : Int} {l : List En} (h : Good room l) (i : Nat) : Good room (l.eraseIdx i) := by
  have hs := List.eraseIdx_sublist l i
  have := hs.length_le
  have := h.len
  exact ⟨h.r1, h.r2, by omega, fun x hx => h.few x (hs.subset hx), fun x hx => h.off x (hs.subset hx)⟩
theorem Good.set {room : Int} {l : List En} (h : Good room l) (i : Nat) {y : En} (h1 : y.l.length ≤ 500) (h2 : y.l ≠ [] → y.st = true) : Good room (l.set i y) := by
  refine ⟨h.r1, h.r2, by rw [List.length_set]; exact h.len, fun x hx => ?_, fun x hx => ?_⟩
  · rcases List.mem_or_eq_of_mem_set hx with hx | rfl
    · exact h.few x hx
    · exact h1
  · rcases List.mem_or_eq_of_mem_set hx with hx | rfl
    · exact h.off x hx
    · exact h2
theorem Good.add {room : Int} {l : List En} (h : Good room l) (m : Msg) : Good room (addP room l m).2 := by
  unfold addP
  split
  · exact h
  · split
    · exact h
    · rename_i hl
      have := h.len
      refine ⟨h.r1, h.r2, by simp; omega, fun x hx => ?_, fun x hx => ?_⟩
      · rcases List.mem_append.1 hx with hx | hx
        · exact h.few x hx
        · obtain rfl : x = ⟨m, false, []⟩ := by simpa using hx
          simp
      · rcases List.mem_append.1 hx with hx | hx
        · exact h.off x hx
        · obtain rfl : x = ⟨m, false, []⟩ := by simpa using hx
          simp
theorem Good.start {room : Int} {l : List En} (h : Good room l) (a : Int) {s : List Msg} (hs : s.length ≤ 500) : Good room (startP l a s).2 := by
  rcases inn_cases l a with ho | ⟨i, x, rfl, hx⟩
  · rw [startP_out ho]; exact h
  · by_cases hr : rdy l i = false ∨ s = []
    · rw [startP_no hx hr]; exact h
    · simp only [not_or, Bool.not_eq_false] at hr
      rw [startP_yes hx hr.1 hr.2]
      exact h.set i hs (fun _ => rfl)
theorem Good.sent {room : Int} {l : List En} (h : Good room l) (a : Int) : Good room (sentP l a).2 := by
  rcases inn_cases l a with ho | ⟨i, x, rfl, hx⟩
  · rw [sentP_out ho]; exact h
  · have hm := List.mem_of_getElem? hx
    rcases hs : x.l with _ | ⟨m, r⟩
    · rw [sentP_no hx hs]; exact h
    · have hst := h.off x hm (by simp [hs])
      have hfw := h.few x hm
      rw [hs] at hfw
      simp at hfw
      by_cases hk : r = [] ∧ x.m.kd = 3
      · obtain ⟨rfl, hk⟩ := hk
        rw [sentP_gone hx hs hk]; exact h.erase i
      · rw [sentP_yes hx hs hk]
        exact h.set i (by simp only; omega) (fun _ => hst)
theorem Good.fin {room : Int} {l : List En} (h : Good room l) (ln fr : Int) : Good room (finP l ln fr).2 := by
  rcases hp : l.findIdx? (isF ln fr) with _ | i
  · rw [finP_none hp]; exact h
  · rw [finP_some hp]; exact h.erase i
theorem Good.doP {room : Int} {l : List En} (h : Good room l) (x : Qo) (hx : x.l.length ≤ 500) : Good room (doP room l x).2 := by
  unfold Go.Proofs.Ytnpbbkiojoafbaa.doP
  repeat' split
  · exact h.add _
  · exact h.start _ hx
  · exact h.sent _
  · exact h.fin _ _

end Go.Proofs.Ytnpbbkiojoafbaa
