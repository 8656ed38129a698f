/-
  Several texts in one: QuM, QuA, QuB, QuC, QuD, QuE.
-/
import Derived.Test.YtpknfbgnclgpmaaGreatDoorRows
import Derived.Test.YtpknfbgnclgpmaaGreatDoorLayMs
import Derived.WalkKit
import Derived.Lib.Hide
import Derived.WalkSpells
import Derived.WalkLawsBesides
import Derived.Deep.AppendLies
import Derived.Deep.QuietTactic
import Derived.BigQuiet
import Derived.Deep.RegionLaw
import Derived.Deep.MidRow
import Derived.Lib.SliceRun
import Derived.Laws.CopyRow

/-
  A queue of requests in plain words: what each call answers and makes of the entries, and what holds of them all. No program is spoken of here.
-/
namespace Go.Proofs.YtpknfbgnclgpmaaGreatDoor.Qu
open Go Go.RowKit

/-! Messages. -/
def mtoL (m : Msg) : List Int := [m.kd, m.ln, m.fr, m.to, m.wh, m.ac, m.ow, m.w0, m.w1, m.w2, m.w3, m.w4, m.w5, m.w6, m.w7]
theorem mext {x y : Msg} (h : mtoL x = mtoL y) : x = y := by
  cases x; cases y
  simp only [mtoL, List.cons.injEq, and_true] at h
  obtain ⟨h0, h1, h2, h3, h4, h5, h6, h7, h8, h9, h10, h11, h12, h13, h14⟩ := h
  subst h0 h1 h2 h3 h4 h5 h6 h7 h8 h9 h10 h11 h12 h13 h14
  rfl
instance : DecidableEq Msg := fun x y => decidable_of_iff (mtoL x = mtoL y) ⟨mext, fun h => by rw [h]⟩
def z0 : Msg := ⟨0, 0, 0, 0, 0, 0, 0, 0, 0, 0, 0, 0, 0, 0, 0⟩
def mg (m : Msg) : List Value := (mcells m).toList
theorem mg_len (m : Msg) : (mg m).length = 15 := rfl

/-- An entry; an entry as it lies in memory, with where its messages are; an operation. -/
structure En where
  m : Msg
  st : Bool
  l : List Msg
theorem En.ext' {x y : En} (h1 : x.m = y.m) (h2 : x.st = y.st) (h3 : x.l = y.l) : x = y := by cases x; cases y; subst h1 h2 h3; rfl
instance : DecidableEq En := fun x y => decidable_of_iff (x.m = y.m ∧ x.st = y.st ∧ x.l = y.l) ⟨fun ⟨a, b, c⟩ => En.ext' a b c, fun h => by rw [h]; exact ⟨rfl, rfl, rfl⟩⟩
structure Ep where
  m : Msg
  st : Bool
  l : List Msg
  p : Option Addr
  c : Nat
def Ep.pl (x : Ep) : En := ⟨x.m, x.st, x.l⟩
structure Qo where
  k : Int
  n : Int
  m : Msg
  l : List Msg
  p : Option Addr
  c : Nat
def e0 : Ep := ⟨z0, false, [], none, 0⟩
def n0 : En := ⟨z0, false, []⟩
abbrev ecells (x : Ep) : Array Value := #[.int .i64 x.m.kd, .int .i64 x.m.ln, .int .i64 x.m.fr, .int .i64 x.m.to, .int .i64 x.m.wh, .int .i64 x.m.ac, .int .i64 x.m.ow, .int .i64 x.m.w0, .int .i64 x.m.w1, .int .i64 x.m.w2, .int .i64 x.m.w3, .int .i64 x.m.w4, .int .i64 x.m.w5, .int .i64 x.m.w6, .int .i64 x.m.w7, .bool x.st, .slice x.p x.l.length x.c]
abbrev ocells (x : Qo) : Array Value := #[.int .i64 x.k, .int .i64 x.n, .int .i64 x.m.kd, .int .i64 x.m.ln, .int .i64 x.m.fr, .int .i64 x.m.to, .int .i64 x.m.wh, .int .i64 x.m.ac, .int .i64 x.m.ow, .int .i64 x.m.w0, .int .i64 x.m.w1, .int .i64 x.m.w2, .int .i64 x.m.w3, .int .i64 x.m.w4, .int .i64 x.m.w5, .int .i64 x.m.w6, .int .i64 x.m.w7, .slice x.p x.l.length x.c]
def ec (x : Ep) : List Value := (ecells x).toList
theorem ec_len (x : Ep) : (ec x).length = 17 := rfl
def oc (x : Qo) : List Value := (ocells x).toList
theorem oc_len (x : Qo) : (oc x).length = 18 := rfl

def oi : Option Nat → Int
  | some k => k
  | none => -1
def rq (k : Int) : Bool := !(k != 1 && k != 2 && k != 3)
def isL (ln : Int) (x : En) : Bool := x.m.ln == ln
def sentAll (x : En) : Bool := x.st && x.l.isEmpty
def isF (ln fr : Int) (x : En) : Bool := x.m.ln == ln && x.m.fr == fr && x.m.kd != 3 && sentAll x
/-- Which entry is at a place. -/
def inn (l : List En) (at_ : Int) : Option (Nat × En) := if 0 ≤ at_ then (l[at_.toNat]?).map fun x => (at_.toNat, x) else none
def rdy (l : List En) (at_ : Int) : Bool := match inn l at_ with
  | none => false
  | some (i, x) => !x.st && l.findIdx? (isL x.m.ln) == some i
def addP (room : Int) (l : List En) (m : Msg) : Int × List En :=
  if rq m.kd = false then (1, l) else if (l.length : Int) = room then (4, l) else (0, l ++ [⟨m, false, []⟩])
def startP (l : List En) (at_ : Int) (s : List Msg) : Int × List En := match inn l at_ with
  | none => (5, l)
  | some (i, x) => if rdy l at_ = false ∨ s = [] then (7, l) else (0, l.set i ⟨x.m, true, s⟩)
def nextP (l : List En) (at_ : Int) : Msg × Bool := match inn l at_ with
  | none => (z0, false)
  | some (_, x) => match x.l with
    | [] => (z0, false)
    | m :: _ => (m, true)
def sentP (l : List En) (at_ : Int) : Int × List En := match inn l at_ with
  | none => (5, l)
  | some (i, x) => match x.l with
    | [] => (7, l)
    | _ :: r => if r = [] ∧ x.m.kd = 3 then (0, l.eraseIdx i) else (0, l.set i ⟨x.m, x.st, r⟩)
def finP (l : List En) (ln fr : Int) : Int × List En := match l.findIdx? (isF ln fr) with
  | none => (7, l)
  | some i => (0, l.eraseIdx i)
def getP (l : List En) (at_ : Int) : En × Bool := match inn l at_ with
  | none => (n0, false)
  | some (_, x) => (x, true)
def doP (room : Int) (l : List En) (x : Qo) : (Msg × Bool × Int) × List En :=
  if x.k = 0 then ((z0, false, (addP room l x.m).1), (addP room l x.m).2)
  else if x.k = 1 then ((z0, false, (startP l x.n x.l).1), (startP l x.n x.l).2)
  else if x.k = 2 then (((nextP l x.n).1, (nextP l x.n).2, (sentP l x.n).1), (sentP l x.n).2)
  else ((z0, false, (finP l x.m.ln x.m.fr).1), (finP l x.m.ln x.m.fr).2)

/-! Where an entry is. -/
theorem inn_out {l : List En} {a : Int} (h : a < 0 ∨ (l.length : Int) ≤ a) : inn l a = none := by
  unfold inn
  rcases h with h | h
  · rw [if_neg (by omega)]
  · by_cases h0 : 0 ≤ a
    · rw [if_pos h0, List.getElem?_eq_none (by omega)]; rfl
    · rw [if_neg h0]
theorem inn_at {l : List En} {i : Nat} {x : En} (h : l[i]? = some x) : inn l (i : Int) = some (i, x) := by
  unfold inn
  rw [if_pos (by omega), Int.toNat_natCast, h]; rfl
theorem inn_cases (l : List En) (a : Int) : (a < 0 ∨ (l.length : Int) ≤ a) ∨ ∃ (i : Nat) (x : En), a = i ∧ l[i]? = some x := by
  by_cases h : 0 ≤ a ∧ a < l.length
  · right
    refine ⟨a.toNat, l[a.toNat]'(by omega), by omega, List.getElem?_eq_getElem _⟩
  · left; omega
theorem find_none {α : Type} {p : α → Bool} {l : List α} (h : ∀ (j : Nat) (x : α), l[j]? = some x → p x = false) : l.findIdx? p = none := by
  rw [List.findIdx?_eq_none_iff]
  intro x hx
  obtain ⟨j, hj, rfl⟩ := List.getElem_of_mem hx
  exact h j _ (List.getElem?_eq_getElem hj)
theorem find_some {α : Type} {p : α → Bool} {l : List α} {k : Nat} {x : α} (hk : l[k]? = some x) (hx : p x = true) (h : ∀ (j : Nat) (y : α), j < k → l[j]? = some y → p y = false) : l.findIdx? p = some k := by
  obtain ⟨hl, rfl⟩ := List.getElem?_eq_some_iff.1 hk
  rw [List.findIdx?_eq_some_iff_getElem]
  refine ⟨hl, hx, fun j hj => ?_⟩
  have := h j _ hj (List.getElem?_eq_getElem (by omega))
  simpa using this
theorem find_at {α : Type} {p : α → Bool} {l : List α} {i : Nat} (h : l.findIdx? p = some i) : ∃ x, l[i]? = some x ∧ p x = true ∧ i < l.length := by
  obtain ⟨hi, hx, _⟩ := List.findIdx?_eq_some_iff_getElem.1 h
  exact ⟨_, List.getElem?_eq_getElem hi, hx, hi⟩
theorem rdy_out {l : List En} {a : Int} (h : a < 0 ∨ (l.length : Int) ≤ a) : rdy l a = false := by unfold rdy; rw [inn_out h]
theorem rdy_at {l : List En} {i : Nat} {x : En} (h : l[i]? = some x) : rdy l (i : Int) = (!x.st && l.findIdx? (isL x.m.ln) == some i) := by unfold rdy; rw [inn_at h]
theorem addP_kind {room : Int} {l : List En} {m : Msg} (h : rq m.kd = false) : addP room l m = (1, l) := by unfold addP; rw [if_pos h]
theorem addP_full {room : Int} {l : List En} {m : Msg} (h : rq m.kd = true) (hl : (l.length : Int) = room) : addP room l m = (4, l) := by unfold addP; rw [if_neg (by simp [h]), if_pos hl]
theorem addP_yes {room : Int} {l : List En} {m : Msg} (h : rq m.kd = true) (hl : ¬ (l.length : Int) = room) : addP room l m = (0, l ++ [⟨m, false, []⟩]) := by unfold addP; rw [if_neg (by simp [h]), if_neg hl]
theorem startP_out {l : List En} {a : Int} {s : List Msg} (h : a < 0 ∨ (l.length : Int) ≤ a) : startP l a s = (5, l) := by unfold startP; rw [inn_out h]
theorem startP_no {l : List En} {i : Nat} {x : En} {s : List Msg} (h : l[i]? = some x) (hr : rdy l i = false ∨ s = []) : startP l i s = (7, l) := by unfold startP; rw [inn_at h]; simp only; rw [if_pos hr]
theorem startP_yes {l : List En} {i : Nat} {x : En} {s : List Msg} (h : l[i]? = some x) (hr : rdy l i = true) (hs : s ≠ []) : startP l i s = (0, l.set i ⟨x.m, true, s⟩) := by unfold startP; rw [inn_at h]; simp only; rw [if_neg (by simp [hr, hs])]
theorem nextP_out {l : List En} {a : Int} (h : a < 0 ∨ (l.length : Int) ≤ a) : nextP l a = (z0, false) := by unfold nextP; rw [inn_out h]
theorem nextP_no {l : List En} {i : Nat} {x : En} (h : l[i]? = some x) (hs : x.l = []) : nextP l i = (z0, false) := by unfold nextP; rw [inn_at h]; simp only [hs]
theorem nextP_yes {l : List En} {i : Nat} {x : En} {m : Msg} {r : List Msg} (h : l[i]? = some x) (hs : x.l = m :: r) : nextP l i = (m, true) := by unfold nextP; rw [inn_at h]; simp only [hs]
theorem sentP_out {l : List En} {a : Int} (h : a < 0 ∨ (l.length : Int) ≤ a) : sentP l a = (5, l) := by unfold sentP; rw [inn_out h]
theorem sentP_no {l : List En} {i : Nat} {x : En} (h : l[i]? = some x) (hs : x.l = []) : sentP l i = (7, l) := by unfold sentP; rw [inn_at h]; simp only [hs]
theorem sentP_gone {l : List En} {i : Nat} {x : En} {m : Msg} (h : l[i]? = some x) (hs : x.l = [m]) (hk : x.m.kd = 3) : sentP l i = (0, l.eraseIdx i) := by unfold sentP; rw [inn_at h]; simp [hs, hk]
theorem sentP_yes {l : List En} {i : Nat} {x : En} {m : Msg} {r : List Msg} (h : l[i]? = some x) (hs : x.l = m :: r) (hk : ¬ (r = [] ∧ x.m.kd = 3)) : sentP l i = (0, l.set i ⟨x.m, x.st, r⟩) := by unfold sentP; rw [inn_at h]; simp only [hs]; rw [if_neg hk]
theorem finP_none {l : List En} {ln fr : Int} (h : l.findIdx? (isF ln fr) = none) : finP l ln fr = (7, l) := by unfold finP; rw [h]
theorem finP_some {l : List En} {ln fr : Int} {i : Nat} (h : l.findIdx? (isF ln fr) = some i) : finP l ln fr = (0, l.eraseIdx i) := by unfold finP; rw [h]
theorem getP_out {l : List En} {a : Int} (h : a < 0 ∨ (l.length : Int) ≤ a) : getP l a = (n0, false) := by unfold getP; rw [inn_out h]
theorem getP_at {l : List En} {i : Nat} {x : En} (h : l[i]? = some x) : getP l i = (x, true) := by unfold getP; rw [inn_at h]

/-! What holds of them all: so many messages at most; only what is started has some. -/
structure Good (room : Int) (l : List En) : Prop where
  r1 : 1 ≤ room
  r2 : room ≤ 16
  len : (l.length : Int) ≤ room
  few : ∀ x ∈ l, x.l.length ≤ 500
  off : ∀ x ∈ l, x.l ≠ [] → x.st = true
theorem Good.short {room : Int} {l : List En} (h : Good room l) : l.length ≤ 16 := by have := h.len; have := h.r2; omega
theorem Good.new {room : Int} (h1 : 1 ≤ room) (h2 : room ≤ 16) : Good room [] := ⟨h1, h2, by simp; omega, fun x hx => (by cases hx), fun x hx => (by cases hx)⟩
theorem Good.erase {room : Int} {l : List En} (h : Good room l) (i : Nat) : Good room (l.eraseIdx i) := by
  have hs := List.eraseIdx_sublist l i
  have := hs.length_le
  have := h.len
  exact ⟨h.r1, h.r2, by omega, fun x hx => h.few x (hs.subset hx), fun x hx => h.off x (hs.subset hx)⟩
theorem Good.set {room : Int} {l : List En} (h : Good room l) (i : Nat) {y : En} (h1 : y.l.length ≤ 500) (h2 : y.l ≠ [] → y.st = true) : Good room (l.set i y) := by
  refine ⟨h.r1, h.r2, by rw [List.length_set]; exact h.len, fun x hx => ?_, fun x hx => ?_⟩
  · rcases List.mem_or_eq_of_mem_set hx with hx | rfl
    · exact h.few x hx
    · exact h1
  · rcases List.mem_or_eq_of_mem_set hx with hx | rfl
    · exact h.off x hx
    · exact h2
theorem Good.add {room : Int} {l : List En} (h : Good room l) (m : Msg) : Good room (addP room l m).2 := by
  unfold addP
  split
  · exact h
  · split
    · exact h
    · rename_i hl
      have := h.len
      refine ⟨h.r1, h.r2, by simp; omega, fun x hx => ?_, fun x hx => ?_⟩
      · rcases List.mem_append.1 hx with hx | hx
        · exact h.few x hx
        · obtain rfl : x = ⟨m, false, []⟩ := by simpa using hx
          simp
      · rcases List.mem_append.1 hx with hx | hx
        · exact h.off x hx
        · obtain rfl : x = ⟨m, false, []⟩ := by simpa using hx
          simp
theorem Good.start {room : Int} {l : List En} (h : Good room l) (a : Int) {s : List Msg} (hs : s.length ≤ 500) : Good room (startP l a s).2 := by
  rcases inn_cases l a with ho | ⟨i, x, rfl, hx⟩
  · rw [startP_out ho]; exact h
  · by_cases hr : rdy l i = false ∨ s = []
    · rw [startP_no hx hr]; exact h
    · simp only [not_or, Bool.not_eq_false] at hr
      rw [startP_yes hx hr.1 hr.2]
      exact h.set i hs (fun _ => rfl)
theorem Good.sent {room : Int} {l : List En} (h : Good room l) (a : Int) : Good room (sentP l a).2 := by
  rcases inn_cases l a with ho | ⟨i, x, rfl, hx⟩
  · rw [sentP_out ho]; exact h
  · have hm := List.mem_of_getElem? hx
    rcases hs : x.l with _ | ⟨m, r⟩
    · rw [sentP_no hx hs]; exact h
    · have hst := h.off x hm (by simp [hs])
      have hfw := h.few x hm
      rw [hs] at hfw
      simp at hfw
      by_cases hk : r = [] ∧ x.m.kd = 3
      · obtain ⟨rfl, hk⟩ := hk
        rw [sentP_gone hx hs hk]; exact h.erase i
      · rw [sentP_yes hx hs hk]
        exact h.set i (by simp only; omega) (fun _ => hst)
theorem Good.fin {room : Int} {l : List En} (h : Good room l) (ln fr : Int) : Good room (finP l ln fr).2 := by
  rcases hp : l.findIdx? (isF ln fr) with _ | i
  · rw [finP_none hp]; exact h
  · rw [finP_some hp]; exact h.erase i
theorem Good.doP {room : Int} {l : List En} (h : Good room l) (x : Qo) (hx : x.l.length ≤ 500) : Good room (doP room l x).2 := by
  unfold Go.Proofs.YtpknfbgnclgpmaaGreatDoor.Qu.doP
  repeat' split
  · exact h.add _
  · exact h.start _ hx
  · exact h.sent _
  · exact h.fin _ _

end Go.Proofs.YtpknfbgnclgpmaaGreatDoor.Qu

/-
  Rows of entries, a queue in memory, and what a call on one may change: in plain words.
-/
namespace Go.Proofs.YtpknfbgnclgpmaaGreatDoor.Qu
open Go Go.RowKit

theorem ret_pair {a b : Int} {c d : Bool} (h : a = b) (h' : c = d) : Ending.returned (.tuple #[.int .i64 a, .bool c]) = .returned (.tuple #[.int .i64 b, .bool d]) := by rw [h, h']
theorem bbox {w w1 : World} {o : Obj} (h : Below (w.alloc o).heap.size (w.alloc o) w1) : Below w.heap.size w w1 := ((Below.refl _ _).alloc (Nat.le_refl _) _).trans (h.mono (by simp))
theorem zbox {w w1 : World} {o : Obj} (h : Below (w.alloc o).heap.size (w.alloc o) w1) : w.heap.size < w1.heap.size := by have := h.size; simp at this; omega
theorem balloc (w : World) (o : Obj) : Below w.heap.size w (w.alloc o) := (Below.refl _ _).alloc (Nat.le_refl _) _
theorem box_at {w w1 : World} {o : Obj} (h : Below (w.alloc o).heap.size (w.alloc o) w1) : w1.heap[w.heap.size]? = some o := (h.block w.heap.size (by simp)).trans (heap_alloc_new w o)
theorem ret_bool {a b : Bool} (h : a = b) : Ending.returned (.bool a) = .returned (.bool b) := by rw [h]
theorem ret_int {k : IntKind} {a b : Int} (h : a = b) : Ending.returned (.int k a) = .returned (.int k b) := by rw [h]
theorem bstep {w w1 w2 : World} (h : Below w.heap.size w w1) (h2 : Below w1.heap.size w1 w2) : Below w.heap.size w w2 := h.trans (h2.mono h.size)
theorem below_drewN {B : Nat} {w w' : World} (h : Below B w w') (n : Nat) : Below B w (w'.drewN n) := ⟨h.os, h.tape, h.output, h.size, h.block⟩
theorem below_setRow {B : Nat} {w w' : World} (h : Below B w w') {g : Nat} (hg : B ≤ g) (cs : Array Value) : Below B w (w'.setRow g cs) :=
  h.trans ⟨rfl, rfl, rfl, by simp, fun k hk => setRow_other w' g k cs (by omega)⟩
theorem blk_cell {w : World} {b : Nat} {L : Array Value} {t : TypeId} (h : w.heap[b]? = some (.cells L t (0, 0))) (i : Nat) : w.cell? ⟨b, i, none⟩ = L[i]? := by simp [World.cell?, h]
theorem blk_free {w : World} {b : Nat} {L : Array Value} {t : TypeId} (h : w.heap[b]? = some (.cells L t (0, 0))) (i : Nat) : w.frozen? ⟨b, i, none⟩ = false := by simp [World.frozen?, h]
theorem lt_of_block {w : World} {b : Nat} {o : Obj} (h : w.heap[b]? = some o) : b < w.heap.size := (Array.getElem?_eq_some_iff.1 h).1

/-- Things as cells. -/
def cellsOf {α : Type} (f : α → List Value) (l : List α) : List Value := l.flatMap f
theorem cellsOf_len {α : Type} {f : α → List Value} {sz : Nat} (hf : ∀ x, (f x).length = sz) (l : List α) : (cellsOf f l).length = l.length * sz := by
  induction l with
  | nil => simp [cellsOf]
  | cons x l ih =>
    have e : cellsOf f (x :: l) = f x ++ cellsOf f l := rfl
    rw [e, List.length_append, ih, hf, List.length_cons, Nat.add_mul, Nat.one_mul, Nat.add_comm]
theorem cellsOf_append {α : Type} (f : α → List Value) (l m : List α) : cellsOf f (l ++ m) = cellsOf f l ++ cellsOf f m := by simp [cellsOf]
theorem cellsOf_take {α : Type} {f : α → List Value} {sz : Nat} (hf : ∀ x, (f x).length = sz) (l : List α) (i : Nat) (h : i ≤ l.length) : (cellsOf f l).take (i * sz) = cellsOf f (l.take i) := by
  have e : cellsOf f l = cellsOf f (l.take i) ++ cellsOf f (l.drop i) := by rw [← cellsOf_append, List.take_append_drop]
  have hl : (cellsOf f (l.take i)).length = i * sz := by rw [cellsOf_len hf, List.length_take, Nat.min_eq_left h]
  rw [e, ← hl, List.take_left']
  rfl
theorem cellsOf_drop {α : Type} {f : α → List Value} {sz : Nat} (hf : ∀ x, (f x).length = sz) (l : List α) (i : Nat) (h : i ≤ l.length) : (cellsOf f l).drop (i * sz) = cellsOf f (l.drop i) := by
  have e : cellsOf f l = cellsOf f (l.take i) ++ cellsOf f (l.drop i) := by rw [← cellsOf_append, List.take_append_drop]
  have hl : (cellsOf f (l.take i)).length = i * sz := by rw [cellsOf_len hf, List.length_take, Nat.min_eq_left h]
  rw [e, ← hl, List.drop_left']
  rfl
theorem cellsOf_at {α : Type} {f : α → List Value} {sz : Nat} (hf : ∀ x, (f x).length = sz) (l : List α) (i j : Nat) (h : i < l.length) (hj : j < sz) : (cellsOf f l)[i * sz + j]? = (f l[i])[j]? := by
  have e : (cellsOf f l).drop (i * sz) = f l[i] ++ cellsOf f (l.drop (i + 1)) := by
    rw [cellsOf_drop hf l i (by omega), List.drop_eq_getElem_cons h]
    rfl
  rw [← List.getElem?_drop, e, List.getElem?_append_left (by rw [hf]; exact hj)]

/-- A bag in memory: its block, and the row of its things, both the call's own from block B on. -/
structure Bg {α : Type} (T e : TypeId) (sz : Nat) (f : α → List Value) (w : World) (B b : Nat) (room : Int) (l : List α) (v : Value) : Prop where
  blk : w.heap[b]? = some (.cells #[.int .i64 room, v] T (0, 0))
  row : w.ownsRow B e sz v l.length (cellsOf f l)
  off : v.ownBlock ≠ some b
  big : B ≤ b
/-- Of what was there nothing has changed but one block, and the block of one row. -/
structure Turn (b : Nat) (v : Value) (w w' : World) : Prop where
  os : w'.os = w.os
  tape : w'.tape = w.tape
  output : w'.output = w.output
  size : w.heap.size ≤ w'.heap.size
  other : ∀ k, k < w.heap.size → k ≠ b → v.ownBlock ≠ some k → w'.heap[k]? = w.heap[k]?
/-- A row's block is the one of before, or new. -/
def Fresh (w : World) (v v' : Value) : Prop := ∀ k, v'.ownBlock = some k → v.ownBlock = some k ∨ w.heap.size ≤ k
theorem Fresh.refl (w : World) (v : Value) : Fresh w v v := fun _ h => .inl h

theorem Turn.of_below {b : Nat} {v : Value} {w w' : World} (h : Below w.heap.size w w') : Turn b v w w' := ⟨h.os, h.tape, h.output, h.size, fun k hk _ _ => h.block k hk⟩
theorem Turn.trans {b : Nat} {v v' : Value} {w w1 w2 : World} (h : Turn b v w w1) (k : Turn b v' w1 w2) (hf : Fresh w v v') : Turn b v w w2 :=
  ⟨k.os.trans h.os, k.tape.trans h.tape, k.output.trans h.output, Nat.le_trans h.size k.size, fun i hi h1 h2 => (k.other i (Nat.lt_of_lt_of_le hi h.size) h1 (fun e => by rcases hf i e with e | e; exact h2 e; omega)).trans (h.other i hi h1 h2)⟩
theorem Turn.below {α : Type} {T e : TypeId} {sz : Nat} {f : α → List Value} {w w' : World} {B b : Nat} {room : Int} {l : List α} {v : Value} (h : Turn b v w w') (hb : Bg T e sz f w B b room l v) (hB : B ≤ w.heap.size) : Below B w w' :=
  ⟨h.os, h.tape, h.output, h.size, fun k hk => h.other k (by omega) (by have := hb.big; omega) (fun e => by have := hb.row.lt k e; omega)⟩

theorem Bg.lt {α : Type} {T e : TypeId} {sz : Nat} {f : α → List Value} {w : World} {B b : Nat} {room : Int} {l : List α} {v : Value} (h : Bg T e sz f w B b room l v) : b < w.heap.size := lt_of_block h.blk
theorem own_block {w w' : World} {base e sz n : Nat} {v : Value} {xs : List Value} (h : w.ownsRow base e sz v n xs) (hb : ∀ k, v.ownBlock = some k → w'.heap[k]? = w.heap[k]?) : w'.ownsRow base e sz v n xs := by
  refine ⟨h.1, ?_⟩
  rcases h.2 with hn | ⟨g, cap, cur, rfl, hb', hgg, rest⟩
  · exact .inl hn
  · exact .inr ⟨g, cap, cur, rfl, hb', (hb g rfl).trans hgg, rest⟩
theorem own_base {w : World} {base base' e sz n : Nat} {v : Value} {xs : List Value} (h : w.ownsRow base e sz v n xs) (hb : ∀ k, v.ownBlock = some k → base' ≤ k) : w.ownsRow base' e sz v n xs := by
  refine ⟨h.1, ?_⟩
  rcases h.2 with hn | ⟨g, cap, cur, rfl, hb', rest⟩
  · exact .inl hn
  · exact .inr ⟨g, cap, cur, rfl, hb g rfl, rest⟩
/-- A bag stands where neither its block nor its row's has changed. -/
theorem Bg.keep {α : Type} {T e : TypeId} {sz : Nat} {f : α → List Value} {w w' : World} {B b : Nat} {room : Int} {l : List α} {v : Value} (h : Bg T e sz f w B b room l v) (h1 : w'.heap[b]? = w.heap[b]?) (h2 : ∀ k, v.ownBlock = some k → w'.heap[k]? = w.heap[k]?) : Bg T e sz f w' B b room l v :=
  ⟨h1.trans h.blk, own_block h.row h2, h.off, h.big⟩
theorem Bg.below {α : Type} {T e : TypeId} {sz : Nat} {f : α → List Value} {w w' : World} {B b : Nat} {room : Int} {l : List α} {v : Value} (h : Bg T e sz f w B b room l v) (hb : Below w.heap.size w w') : Bg T e sz f w' B b room l v :=
  h.keep (hb.block b h.lt) fun k hk => hb.block k (h.row.lt k hk).2
theorem Bg.form {α : Type} {T e : TypeId} {sz : Nat} {f : α → List Value} {w : World} {B b : Nat} {room : Int} {l : List α} {v : Value} (h : Bg T e sz f w B b room l v) : ∃ p cap, v = .slice p l.length cap ∧ (0 < l.length → ∃ g, p = some ⟨g, 0, none⟩) := by
  rcases h.row.2 with ⟨e, h0⟩ | ⟨g, cap, cur, e, _⟩
  · exact ⟨none, 0, by rw [e, h0], fun h => by omega⟩
  · exact ⟨_, cap, e, fun _ => ⟨g, rfl⟩⟩
/-- A new bag. -/
theorem Bg.new {α : Type} {T e : TypeId} {sz : Nat} {f : α → List Value} {w : World} {B : Nat} {room : Int} (hB : B ≤ w.heap.size) : Bg T e sz f (w.alloc (.cells #[.int .i64 room, .slice none 0 0] T)) B w.heap.size room [] (.slice none 0 0) :=
  ⟨heap_alloc_new w _, World.ownsRow_nil _ _ _ _, by simp [Value.ownBlock], hB⟩

/-- What is behind a Put: the bag has one thing more. -/
def PutGave {α : Type} (T e : TypeId) (sz : Nat) (f : α → List Value) (w : World) (B b : Nat) (room : Int) (l : List α) (v : Value) (w' : World) : Prop := ∃ v', Bg T e sz f w' B b room l v' ∧ Turn b v w w' ∧ Fresh w v v'
theorem put_blk {α : Type} {T e : TypeId} {sz : Nat} {f : α → List Value} {w w1 w2 : World} {B b : Nat} {room : Int} {l : List α} {v : Value} (h : Bg T e sz f w B b room l v) (hw : Below w.heap.size w w1) (hgrow : w1.grownBy w2 v.ownBlock) : w2.heap[b]? = some (.cells #[.int .i64 room, v] T (0, 0)) :=
  (hgrow.block b (Nat.lt_of_lt_of_le h.lt hw.size) (fun e => h.off e.symm)).trans ((hw.block b h.lt).trans h.blk)
theorem put_gave {α : Type} {T e : TypeId} {sz : Nat} {f : α → List Value} {w w1 w2 : World} {B b : Nat} {room : Int} {l : List α} {x : α} {v : Value} {g cap : Nat} (h : Bg T e sz f w B b room l v) (hw : Below w.heap.size w w1)
    (hown : w2.ownsRow B e sz (.slice (some ⟨g, 0, none⟩) (l.length + 1) cap) (l.length + 1) (cellsOf f l ++ f x)) (hgrow : w1.grownBy w2 v.ownBlock) (hat : v.ownBlock = some g ∨ w.heap.size ≤ g) :
    PutGave T e sz f w B b room (l ++ [x]) v (w2.setCell ⟨b, 1, none⟩ (.slice (some ⟨g, 0, none⟩) (l.length + 1) cap)) := by
  have hbl := h.lt
  have hb2 : w2.heap[b]? = some (.cells #[.int .i64 room, v] T (0, 0)) := (hgrow.block b (Nat.lt_of_lt_of_le hbl hw.size) (fun e => h.off e.symm)).trans ((hw.block b hbl).trans h.blk)
  have hgb : g ≠ b := by
    rcases hat with hat | hat
    · exact fun e => h.off (e ▸ hat)
    · omega
  refine ⟨.slice (some ⟨g, 0, none⟩) (l.length + 1) cap, ⟨?_, ?_, ?_, h.big⟩, ?_, ?_⟩
  · rw [heap_setCell_same w2 b 1 _ _ _ hb2]
    rfl
  · have := own_block (w' := w2.setCell ⟨b, 1, none⟩ (.slice (some ⟨g, 0, none⟩) (l.length + 1) cap)) hown fun k hk => by
      simp only [Value.ownBlock, Option.some.injEq] at hk
      exact heap_setCell_other _ _ _ _ (by simp only; omega)
    rw [List.length_append, List.length_singleton, cellsOf_append]
    simpa [cellsOf] using this
  · simpa [Value.ownBlock] using hgb
  · refine ⟨?_, ?_, ?_, ?_, fun k hk h1 h2 => ?_⟩
    · exact hgrow.os.trans hw.os
    · exact hgrow.tape.trans hw.tape
    · exact hgrow.output.trans hw.output
    · have h3 := hw.size; have h4 := hgrow.size; simp [World.setCell]; omega
    · exact (heap_setCell_other _ _ _ _ h1).trans ((hgrow.block k (Nat.lt_of_lt_of_le hk hw.size) (fun e => h2 e.symm)).trans (hw.block k hk))
  · intro k hk
    simp only [Value.ownBlock, Option.some.injEq] at hk
    rcases hat with hat | hat
    · exact .inl (hk ▸ hat)
    · exact .inr (hk ▸ hat)

/-- Nothing but one block has changed. -/
structure Only (b : Nat) (w w' : World) : Prop where
  os : w'.os = w.os
  tape : w'.tape = w.tape
  output : w'.output = w.output
  size : w'.heap.size = w.heap.size
  other : ∀ c, c ≠ b → w'.heap[c]? = w.heap[c]?
/-- What a call gives that makes a row of its own. -/
def RowGave {α : Type} (e : TypeId) (sz : Nat) (f : α → List Value) (l : List α) (w : World) (x : Ending) (w' : World) : Prop := ∃ v, x = .returned v ∧ w'.ownsRow w.heap.size e sz v l.length (cellsOf f l) ∧ Below w.heap.size w w'


theorem results_cell_two {P : Program} {fn : Func} {p q : Tmp} {ty : TypeId} (h : fn.results = #[.cell p ty, .tmp q]) (tmps : Array Value) (w : World) (g : Nat) (t : TypeId) (cs : Array Value) (fr : Nat × Nat) (d : TypeDesc)
    (hp : tmps.getD p undef = .pointer (some ⟨g, 0, none⟩)) (hg : w.heap[g]? = some (.cells cs t fr))
    (hu : P.underlying ty = some d) (hd : (match d with | .struct _ | .array _ _ => true | _ => false) = true) (hi : (P.info? ty).map (·.size) = some cs.size) :
    (results fn tmps).run P w = .ok (.tuple #[.agg cs, tmps.getD q undef]) w := by
  have hp' : tmps[p]?.getD undef = .pointer (some ⟨g, 0, none⟩) := by simpa using hp
  simp [results, h, hp', asAddr, run_loadVar_row w g t ty cs fr d hg hu hd hi]

theorem new_at2 (w : World) (A B : Obj) : ((w.alloc A).alloc B).heap[w.heap.size + 1]? = some B := by
  have h1 := heap_alloc_new (w.alloc A) B
  have e1 : (w.alloc A).heap.size = w.heap.size + 1 := by simp
  rwa [e1] at h1
theorem new_at1 (w : World) (A B : Obj) : ((w.alloc A).alloc B).heap[w.heap.size]? = some A := by
  rw [Below.heap_alloc _ _ _ (by simp)]
  exact heap_alloc_new w A


theorem ec_one (x : Ep) : ∀ u ∈ ec x, u.oneCell' = true := by
  intro u hu
  simp [ec] at hu
  rcases hu with rfl | rfl | rfl | rfl | rfl | rfl | rfl | rfl | rfl | rfl | rfl | rfl | rfl | rfl | rfl | rfl | rfl <;> rfl
theorem ecs_one (l : List Ep) : ∀ u ∈ cellsOf ec l, u.oneCell' = true := by
  intro u hu
  obtain ⟨m, _, hm⟩ := List.mem_flatMap.1 hu
  exact ec_one m u hm
theorem heap_drew (w : World) : w.drew.heap = w.heap := rfl

/-- Where a slice's entries lie. -/
def EpIn (w : World) (p : Option Addr) (l : List Ep) : Prop := ∀ i x, l[i]? = some x → ∃ g, p = some ⟨g, 0, none⟩ ∧ g < w.heap.size ∧ w.rangeAt g (i * 17) (ec x)
theorem EpIn.step {w w' : World} {p : Option Addr} {l : List Ep} (h : EpIn w p l) (hb : Below w.heap.size w w') : EpIn w' p l := fun i x hx => by
  obtain ⟨g, e, hg, hr⟩ := h i x hx
  exact ⟨g, e, Nat.lt_of_lt_of_le hg hb.size, fun j v hv => (hb.cell (p := ⟨g, i * 17 + j, none⟩) hg).trans (hr j v hv)⟩
theorem own_ins {w : World} {B e : Nat} {v : Value} {l : List Ep} (h : w.ownsRow B e 17 v l.length (cellsOf ec l)) : ∃ p cap, v = .slice p l.length cap ∧ EpIn w p l := by
  rcases h.2 with ⟨rfl, h0⟩ | ⟨g, cap, cur, rfl, hb, hg, rest⟩
  · exact ⟨none, 0, by rw [h0], fun i x hx => by have := (List.getElem?_eq_some_iff.1 hx).1; omega⟩
  · refine ⟨_, cap, rfl, fun i x hx => ⟨g, rfl, lt_of_block hg, fun j u hu => ?_⟩⟩
    obtain ⟨hi, rfl⟩ := List.getElem?_eq_some_iff.1 hx
    have hj : j < 17 := by
      have := (List.getElem?_eq_some_iff.1 hu).1
      rwa [ec_len] at this
    have := h.cells (g := g) rfl (i * 17 + j) u (by rw [cellsOf_at ec_len l i j hi hj]; exact hu)
    rwa [Addr.add_lit, Nat.zero_add] at this
theorem Bg.ins {T e : TypeId} {w : World} {B b : Nat} {room : Int} {l : List Ep} {v : Value} (h : Bg T e 17 ec w B b room l v) : ∃ p cap, v = .slice p l.length cap ∧ EpIn w p l := own_ins h.row
/-- Where one entry lies. -/
theorem Bg.one {T e : TypeId} {w : World} {B b : Nat} {room : Int} {l : List Ep} {v : Value} (h : Bg T e 17 ec w B b room l v) {i : Nat} {x : Ep} (hx : l[i]? = some x) :
    ∃ g cap, v = .slice (some ⟨g, 0, none⟩) l.length cap ∧ b ≠ g ∧ g < w.heap.size ∧ B ≤ g ∧ w.rangeAt g (i * 17) (ec x) ∧ (∀ o, w.frozen? ⟨g, o, none⟩ = false) ∧ l.length ≤ cap ∧ cap ≤ maxLen := by
  have hi := (List.getElem?_eq_some_iff.1 hx).1
  obtain ⟨p, cap, e0, hin⟩ := h.ins
  obtain ⟨g, rfl, hg, hr⟩ := hin i x hx
  subst e0
  rcases h.row.2 with ⟨e0, h0⟩ | ⟨g', cap', cur, e0, hB, hgg, h1, h2, _⟩
  · cases e0
  · obtain ⟨rfl, rfl⟩ : g = g' ∧ cap = cap' := by simpa using e0
    exact ⟨g, cap, rfl, fun e => h.off (by rw [e]; rfl), hg, hB, hr, fun o => blk_free hgg o, h1, h2⟩

/-- Cells of a block that is known whole are set anew. -/
theorem heap_setCells_row (g : Nat) (t : TypeId) : ∀ (vs : List Value) (o : Nat) (cur : Array Value) (w : World), w.heap[g]? = some (.cells cur t (0, 0)) → o + vs.length ≤ cur.size →
    (w.setCells g o vs).heap[g]? = some (.cells (cur.toList.take o ++ vs ++ cur.toList.drop (o + vs.length)).toArray t (0, 0))
  | [], o, cur, w, hg, _ => by simpa [World.setCells] using hg
  | v :: r, o, cur, w, hg, hl => by
    have ih := heap_setCells_row g t r (o + 1) (cur.setIfInBounds o v) (w.setCell ⟨g, o, none⟩ v) (by rw [heap_setCell_same w g o _ _ _ hg]) (by simp at hl ⊢; omega)
    rw [World.setCells, ih]
    congr 3
    have e := list_seg_step cur.toList o v r (by simp at hl ⊢; omega)
    simpa [Array.toList_setIfInBounds, Nat.add_assoc, Nat.add_comm] using e
theorem heap_setCells_other (b : Nat) : ∀ (vs : List Value) (o : Nat) (w : World) (k : Nat), k ≠ b → (w.setCells b o vs).heap[k]? = w.heap[k]?
  | [], _, _, _, _ => rfl
  | v :: r, o, w, k, h => by rw [World.setCells, heap_setCells_other b r (o + 1) _ k h, heap_setCell_other _ _ _ _ h]
theorem setCells_rest (b : Nat) : ∀ (vs : List Value) (o : Nat) (w : World), (w.setCells b o vs).os = w.os ∧ (w.setCells b o vs).tape = w.tape ∧ (w.setCells b o vs).output = w.output ∧ (w.setCells b o vs).heap.size = w.heap.size
  | [], _, _ => ⟨rfl, rfl, rfl, rfl⟩
  | v :: r, o, w => by
    obtain ⟨h1, h2, h3, h4⟩ := setCells_rest b r (o + 1) (w.setCell ⟨b, o, none⟩ v)
    rw [World.setCells]
    exact ⟨h1, h2, h3, by rw [h4]; simp⟩
/-- What it makes of a row's cells. -/
theorem cells_set {l : List Ep} {i : Nat} {x y : Ep} (hx : l[i]? = some x) (j : Nat) (vs : List Value) (hj : j + vs.length ≤ 17) (hin : ∀ m, m < vs.length → (ec y)[j + m]? = vs[m]?) (hout : ∀ m, m < 17 → m < j ∨ j + vs.length ≤ m → (ec y)[m]? = (ec x)[m]?) :
    (cellsOf ec l).take (i * 17 + j) ++ vs ++ (cellsOf ec l).drop (i * 17 + j + vs.length) = cellsOf ec (l.set i y) := by
  obtain ⟨hi, rfl⟩ := List.getElem?_eq_some_iff.1 hx
  have hL := cellsOf_len ec_len l
  have hsplit : cellsOf ec l = cellsOf ec (l.take i) ++ (ec l[i] ++ cellsOf ec (l.drop (i + 1))) := by
    conv => lhs; rw [← List.take_append_drop i l, cellsOf_append, List.drop_eq_getElem_cons hi]
    rfl
  have hset : cellsOf ec (l.set i y) = cellsOf ec (l.take i) ++ (ec y ++ cellsOf ec (l.drop (i + 1))) := by
    rw [List.set_eq_take_append_cons_drop, if_pos hi, cellsOf_append]
    rfl
  have hA : (cellsOf ec (l.take i)).length = i * 17 := by rw [cellsOf_len ec_len, List.length_take, Nat.min_eq_left (by omega)]
  have hy : ec y = (ec l[i]).take j ++ vs ++ (ec l[i]).drop (j + vs.length) := by
    refine List.ext_getElem? fun m => ?_
    by_cases h17 : m < 17
    · by_cases h1 : m < j
      · rw [hout m h17 (.inl h1), List.append_assoc, List.getElem?_append_left (by rw [List.length_take, ec_len]; omega), List.getElem?_take, if_pos h1]
      · by_cases h2 : m < j + vs.length
        · rw [List.append_assoc, List.getElem?_append_right (by rw [List.length_take, ec_len]; omega), List.getElem?_append_left (by rw [List.length_take, ec_len]; omega)]
          have := hin (m - j) (by omega)
          rw [show j + (m - j) = m by omega] at this
          rw [this, List.length_take, ec_len, Nat.min_eq_left (by omega)]
        · rw [hout m h17 (.inr (by omega)), List.getElem?_append_right (by rw [List.length_append, List.length_take, ec_len]; omega), List.getElem?_drop, List.length_append, List.length_take, ec_len, Nat.min_eq_left (by omega)]
          congr 1; omega
    · rw [List.getElem?_eq_none (by rw [ec_len]; omega), List.getElem?_eq_none (by rw [List.length_append, List.length_append, List.length_take, List.length_drop, ec_len]; omega)]
  rw [hset, hy, hsplit]
  have e1 : (cellsOf ec (l.take i) ++ (ec l[i] ++ cellsOf ec (l.drop (i + 1)))).take (i * 17 + j) = cellsOf ec (l.take i) ++ (ec l[i]).take j := by
    rw [← hA, List.take_length_add_append, List.take_append_of_le_length (by rw [ec_len]; omega)]
  have e2 : (cellsOf ec (l.take i) ++ (ec l[i] ++ cellsOf ec (l.drop (i + 1)))).drop (i * 17 + j + vs.length) = (ec l[i]).drop (j + vs.length) ++ cellsOf ec (l.drop (i + 1)) := by
    rw [← hA, Nat.add_assoc, List.drop_length_add_append, List.drop_append_of_le_length (by rw [ec_len]; omega)]
  rw [e1, e2]
  simp only [List.append_assoc]
/-- Some cells of an entry are set anew. -/
theorem Bg.store {T e : TypeId} {w : World} {B b : Nat} {room : Int} {l : List Ep} {g cap : Nat} (h : Bg T e 17 ec w B b room l (.slice (some ⟨g, 0, none⟩) l.length cap)) {i : Nat} {x : Ep} (hx : l[i]? = some x) (y : Ep) (j : Nat) (vs : List Value) (hj : j + vs.length ≤ 17)
    (hin : ∀ m, m < vs.length → (ec y)[j + m]? = vs[m]?) (hout : ∀ m, m < 17 → m < j ∨ j + vs.length ≤ m → (ec y)[m]? = (ec x)[m]?) : Bg T e 17 ec (w.setCells g (i * 17 + j) vs) B b room (l.set i y) (.slice (some ⟨g, 0, none⟩) l.length cap) := by
  have hi := (List.getElem?_eq_some_iff.1 hx).1
  have hgb : b ≠ g := fun e => h.off (by rw [e]; rfl)
  obtain ⟨hlen, hh⟩ := h.row
  rcases hh with ⟨e0, h0⟩ | ⟨g', cap', cur, e0, hB, hgg, h1, h2, h3, h4⟩
  · cases e0
  · obtain ⟨rfl, rfl⟩ : g = g' ∧ cap = cap' := by simpa using e0
    have hfit : l.length * 17 ≤ cap * 17 := Nat.mul_le_mul_right _ h1
    have hi17 : (i + 1) * 17 ≤ l.length * 17 := Nat.mul_le_mul_right _ hi
    rw [Nat.add_mul] at hi17
    have hst := heap_setCells_row g e vs (i * 17 + j) cur w hgg (by omega)
    refine ⟨(heap_setCells_other g vs _ w b hgb).trans h.blk, ?_, h.off, h.big⟩
    rw [List.length_set]
    refine ⟨by rw [cellsOf_len ec_len, List.length_set], .inr ⟨g, cap, _, rfl, hB, hst, h1, h2, ?_, ?_⟩⟩
    · simp only [List.size_toArray, List.length_append, List.length_take, List.length_drop, Array.length_toList]
      omega
    · rw [List.toList_toArray]
      have e5 : cur.toList.drop (i * 17 + j + vs.length) = (cellsOf ec l).drop (i * 17 + j + vs.length) ++ cur.toList.drop (l.length * 17) := by
        have : cur.toList = cellsOf ec l ++ cur.toList.drop (l.length * 17) := by rw [← h4, List.take_append_drop]
        conv => lhs; rw [this]
        rw [List.drop_append_of_le_length (by rw [hlen]; omega)]
      have e6 : cur.toList.take (i * 17 + j) = (cellsOf ec l).take (i * 17 + j) := by
        rw [← h4, List.take_take, Nat.min_eq_left (by omega)]
      rw [e5, e6, ← List.append_assoc, cells_set hx j vs hj hin hout]
      have : (cellsOf ec (l.set i y)).length = l.length * 17 := by rw [cellsOf_len ec_len, List.length_set]
      rw [← this, List.take_left']
      rfl
theorem turn_setCells {b g n cap : Nat} (o : Nat) (vs : List Value) (w : World) : Turn b (.slice (some ⟨g, 0, none⟩) n cap) w (w.setCells g o vs) := by
  obtain ⟨h1, h2, h3, h4⟩ := setCells_rest g vs o w
  exact ⟨h1, h2, h3, by omega, fun k _ _ hne => heap_setCells_other g vs o w k (fun e => hne (by rw [e]; rfl))⟩
theorem gave_same {T e : TypeId} {w w' : World} {B b : Nat} {room : Int} {l : List Ep} {v : Value} (h : Bg T e 17 ec w B b room l v) (hb : Below w.heap.size w w') : PutGave T e 17 ec w B b room l v w' := ⟨v, h.below hb, .of_below hb, Fresh.refl _ _⟩
theorem gave_store {T e : TypeId} {w w1 : World} {B b : Nat} {room : Int} {l : List Ep} {g cap : Nat} (h : Bg T e 17 ec w B b room l (.slice (some ⟨g, 0, none⟩) l.length cap)) (hb : Below w.heap.size w w1) {i : Nat} {x : Ep} (hx : l[i]? = some x) (y : Ep) (j : Nat) (vs : List Value) (hj : j + vs.length ≤ 17)
    (hin : ∀ m, m < vs.length → (ec y)[j + m]? = vs[m]?) (hout : ∀ m, m < 17 → m < j ∨ j + vs.length ≤ m → (ec y)[m]? = (ec x)[m]?) : PutGave T e 17 ec w B b room (l.set i y) (.slice (some ⟨g, 0, none⟩) l.length cap) (w1.setCells g (i * 17 + j) vs) := by
  refine ⟨_, (h.below hb).store hx y j vs hj hin hout, ?_, Fresh.refl _ _⟩
  have ht := turn_setCells (b := b) (g := g) (n := l.length) (cap := cap) (i * 17 + j) vs w1
  exact (Turn.of_below hb).trans ht (Fresh.refl _ _)

/-- append in place, at a step of a region that draws its order: the row is known whole. -/
theorem step_append_row {P : Program} {ops : Array Oper} {o : Oper} {a : Act} {w : World} {K : Act → World → Prop} {Q : Exit → Act → World → Prop} {E : Prop}
    (hg : o.guard = none) (s x : Operand) (t : TypeId) (hop : o.op = Op.call { callee := Callee.builtin Builtin.append, args := #[s, x], argTypes := #[t, t] })
    (e : TypeId) (i : TypeInfo) (size : Nat) (h1 : P.underlying t = some (.slice e)) (h2 : P.info? e = some i) (h4 : i.size = size)
    (b n cap : Nat) (cur : Array Value) (hb : w.heap[b]? = some (.cells cur e (0, 0))) (hs : a.eval s = .slice (some ⟨b, 0, none⟩) n cap)
    (ad : Addr) (m c : Nat) (news : List Value) (hx : a.eval x = .slice (some ad) m c) (hn : news.length = m * size) (hc : ∀ j u, news[j]? = some u → w.cell? (ad.add j) = some u) (h1c : ∀ u ∈ news, u.oneCell' = true)
    (hroom : n + m ≤ cap) (hfit : n * size + news.length ≤ cur.size)
    (hK : K (a.put o.dst (.slice (some ⟨b, 0, none⟩) (n + m) cap)) (w.setRow b (cur.toList.take (n * size) ++ news ++ cur.toList.drop (n * size + news.length)).toArray)) :
    if Region.wanted o (yielded ops a.tmps) = true then Oper.wp P o a w K Q else E := by
  have hw : Region.wanted o (yielded ops a.tmps) = true := by simp [Region.wanted, hg]
  rw [if_pos hw]
  subst h4
  have hrun := run_append_room (P := P) w t o.type e i h1 h2 b n cap cur hb ad m c news hn hc h1c hroom hfit
  unfold Oper.wp
  simp [execOp, hop, resolve, invoke, builtin, hs, hx, hrun, Result.andThen]
  rw [List.append_assoc] at hK
  exact hK

/-- 'clear' of one element of a row that is known whole. -/
theorem run_clear_row {P : Program} (w : World) (t e ty : TypeId) (z : Value) (ht : P.underlying t = some (.slice e)) (hv : ∀ w, (zeroValue e).run P w = .ok z w) (hz : ∀ u ∈ z.cells.toList, u.oneCell' = true) (g o c : Nat) (cur : Array Value) (hg : w.heap[g]? = some (.cells cur e (0, 0))) (hfit : o + z.cells.size ≤ cur.size) :
    (Builtin.clear_ #[t] ty #[.slice (some ⟨g, o, none⟩) 1 c]).run P w = .ok (.tuple #[]) (w.setRow g (cur.toList.take o ++ z.cells.toList ++ cur.toList.drop (o + z.cells.size)).toArray) := by
  have hzc : (Builtin.zeroCells z.cells 1).toList = z.cells.toList := by
    unfold Builtin.zeroCells
    apply List.ext_getElem
    · simp
    · intro k h1 h2
      have hk : k < z.cells.size := by simpa using h2
      simp [Nat.mod_eq_of_lt hk, hk]
  have hst := run_storeCells_at P g o e z.cells.toList 0 cur w hg (by simpa using hfit) hz
  simp only [Nat.add_zero] at hst
  simp [Builtin.clear_, run_underlying ht, hv, hzc, hst]

/-- What the two leave. -/
theorem del_list {α : Type} (c xs zs : List α) (a m s : Nat) (hx : c.take (a + m + s) = xs) (hc : a + m + s ≤ c.length) (hz : zs.length = s) :
    let nw := xs.drop (a + s)
    let A := c.take a ++ nw ++ c.drop (a + nw.length)
    let R := A.take (a + m) ++ zs ++ A.drop (a + m + s)
    nw.length = m ∧ A.length = c.length ∧ R.length = c.length ∧ R.take (a + m) = xs.take a ++ nw := by
  intro nw A R
  have hxl : xs.length = a + m + s := by rw [← hx, List.length_take, Nat.min_eq_left hc]
  have hn : nw.length = m := by show (xs.drop (a + s)).length = m; rw [List.length_drop]; omega
  have hA : A.length = c.length := by
    show (c.take a ++ nw ++ c.drop (a + nw.length)).length = _
    simp only [List.length_append, List.length_take, List.length_drop] at hn ⊢; omega
  have hAt : A.take (a + m) = c.take a ++ nw := by
    have hl : (c.take a ++ nw).length = a + m := by rw [List.length_append, List.length_take, hn]; omega
    show (c.take a ++ nw ++ c.drop (a + nw.length)).take (a + m) = _
    rw [← hl, List.take_left']
    rfl
  have hca : c.take a = xs.take a := by rw [← hx, List.take_take, Nat.min_eq_left (by omega)]
  refine ⟨hn, hA, ?_, ?_⟩
  · show (A.take (a + m) ++ zs ++ A.drop (a + m + s)).length = _
    rw [List.length_append, List.length_append, List.length_take, List.length_drop, hz, hA]; omega
  · have hl : (A.take (a + m)).length = a + m := by rw [List.length_take, hA]; omega
    show (A.take (a + m) ++ zs ++ A.drop (a + m + s)).take (a + m) = _
    rw [List.append_assoc, List.take_append_of_le_length (by omega), List.take_take, Nat.min_self, hAt, hca]

/-- What Delete of one thing gives. -/
def DelGave {α : Type} (e : TypeId) (sz : Nat) (f : α → List Value) (B g n cap : Nat) (l : List α) (w : World) (x : Ending) (w' : World) : Prop :=
  x = .returned (.slice (some ⟨g, 0, none⟩) (n - 1) cap) ∧ w'.ownsRow B e sz (.slice (some ⟨g, 0, none⟩) (n - 1) cap) l.length (cellsOf f l) ∧ Only g w w'

/-- What is behind the two, of a row that is owned. -/
theorem del_own {α : Type} {e sz : Nat} {f : α → List Value} (hf : ∀ x, (f x).length = sz) {w : World} {B g cap : Nat} {l : List α} {i : Nat} (hi : i < l.length) {cur zs : Array Value} (hB : B ≤ g) (hg : w.heap[g]? = some (.cells cur e (0, 0))) (hnc : l.length ≤ cap) (hcm : cap ≤ maxLen) (hcs : cur.size = cap * sz) (ht : cur.toList.take (l.length * sz) = cellsOf f l) (hz : zs.size = sz)
    {news : List Value} (hn : news = (cellsOf f l).drop ((i + 1) * sz)) {A R : Array Value} (hA : A = (cur.toList.take (i * sz) ++ news ++ cur.toList.drop (i * sz + news.length)).toArray)
    (hR : R = (A.toList.take ((i + (l.length - (i + 1))) * sz) ++ zs.toList ++ A.toList.drop ((i + (l.length - (i + 1))) * sz + zs.size)).toArray) (q : Nat) :
    DelGave e sz f B g l.length cap (l.eraseIdx i) w (.returned (.slice (some ⟨g, 0, none⟩) (i + (l.length - (i + 1))) cap)) ((((w.drewN q).setRow g A).setRow g R)) := by
  have hm : (i + (l.length - (i + 1))) = l.length - 1 := by omega
  have e1 : (i + (l.length - (i + 1))) * sz = i * sz + (l.length - (i + 1)) * sz := by rw [Nat.add_mul]
  have e2 : (i + 1) * sz = i * sz + sz := by rw [Nat.add_mul, Nat.one_mul]
  have e3 : l.length * sz = i * sz + (l.length - (i + 1)) * sz + sz := by
    have : l.length = i + (l.length - (i + 1)) + 1 := by omega
    conv => lhs; rw [this]
    rw [Nat.add_mul, Nat.add_mul, Nat.one_mul]
  have hcl : l.length * sz ≤ cap * sz := Nat.mul_le_mul_right _ hnc
  obtain ⟨d1, d2, d3, d4⟩ := del_list cur.toList (cellsOf f l) zs.toList (i * sz) ((l.length - (i + 1)) * sz) sz (by rw [← e3, ht]) (by simp; omega) (by simpa using hz)
  rw [← e2, ← hn] at d1 d2 d3 d4
  have hRl : R.toList = (cur.toList.take (i * sz) ++ news ++ cur.toList.drop (i * sz + news.length)).take (i * sz + (l.length - (i + 1)) * sz) ++ zs.toList ++ (cur.toList.take (i * sz) ++ news ++ cur.toList.drop (i * sz + news.length)).drop (i * sz + (l.length - (i + 1)) * sz + sz) := by
    rw [hR, hA, e1, hz]
  have hheap : (((w.drewN q).setRow g A).setRow g R).heap[g]? = some (.cells R e (0, 0)) := setRow_heap _ g _ R e _ (setRow_heap (w.drewN q) g _ A e _ hg)
  have hel : (l.eraseIdx i).length = l.length - 1 := List.length_eraseIdx_of_lt hi
  have hcell : (cellsOf f l).take (i * sz) ++ news = cellsOf f (l.eraseIdx i) := by
    rw [hn, cellsOf_take hf l i (by omega), cellsOf_drop hf l (i + 1) (by omega), ← cellsOf_append, List.eraseIdx_eq_take_drop_succ]
  refine ⟨by rw [hm], ⟨by rw [cellsOf_len hf], .inr ⟨g, cap, R, ?_, hB, hheap, ?_, hcm, ?_, ?_⟩⟩, ⟨rfl, rfl, rfl, by simp, fun c hc => ?_⟩⟩
  · rw [hel]
  · omega
  · rw [← hcs]
    have := congrArg List.length hRl
    rw [d3] at this
    simpa using this
  · rw [hel, ← hm, e1, hRl, d4, hcell]
  · exact (setRow_other _ g c R hc).trans (setRow_other (w.drewN q) g c A hc)


abbrev BgP := @Bg Ep 140 80 17 ec
abbrev BgD := @Bg Ep 59 104 17 ec
theorem A57 : (Tryz.prog.info? 80).map (fun i => (i.zero, i.size, i.bytes)) = some (some (.agg (ecells e0)), 17, 152) := by kernel_rfl
theorem A61 : (Tryz.prog.info? 104).map (fun i => (i.zero, i.size, i.bytes)) = some (some (.agg (ecells e0)), 17, 152) := by kernel_rfl

end Go.Proofs.YtpknfbgnclgpmaaGreatDoor.Qu

/-
  The smallest functions of package queue, one contract each: entry, Left, New, allSent, the closures, IndexFunc, place, Ready.
-/
namespace Go.Proofs.YtpknfbgnclgpmaaGreatDoor.Qu
open Go Go.RowKit

theorem wpList_load_at {P : Program} {ops : Array Oper} {rest : List Oper} {op : Oper} {a : Act} {w : World} {Q : Exit → Act → World → Prop} (hgd : op.guard = none) (ty : TypeId) (x : Operand) (ho : op.op = .load ty x)
    (b o : Nat) (hx : a.eval x = .pointer (some ⟨b, o, none⟩)) (cs : Array Value) (d : TypeDesc) (hc : w.rangeAt b o cs.toList)
    (hu : P.underlying ty = some d) (hd : d.isRow = true) (hi : (P.info? ty).map (·.size) = some cs.toList.length)
    (h : wpList P ops Q rest (a.put op.dst (.agg cs)) w) : wpList P ops Q (op :: rest) a w :=
  wpList_load_mid hgd ty x ho b o hx cs.toList d hc hu hd hi (by simpa using h)
theorem wpList_load_guarded {P : Program} {ops : Array Oper} {rest : List Oper} {o : Oper} {a : Act} {w : World} {Q : Exit → Act → World → Prop} (hw : Region.wanted o (yielded ops a.tmps) = true) (ty : TypeId) (x : Operand) (ho : o.op = .load ty x)
    (g : Nat) (hx : a.eval x = .pointer (some ⟨g, 0, none⟩)) (t : TypeId) (cs : Array Value) (fr : Nat × Nat) (d : TypeDesc) (hg : w.heap[g]? = some (.cells cs t fr))
    (hu : P.underlying ty = some d) (hd : (match d with | .struct _ | .array _ _ => true | _ => false) = true) (hi : (P.info? ty).map (·.size) = some cs.size)
    (h : wpList P ops Q rest (a.put o.dst (.agg cs)) w) : wpList P ops Q (o :: rest) a w :=
  wpList_step fun K hK => by
    rw [if_pos hw]
    exact wp_load_row ty x ho g hx t cs fr d hg hu hd hi (hK _ _ h)
theorem wpList_mid_guarded {P : Program} {ops : Array Oper} {rest : List Oper} {op : Oper} {a : Act} {w : World} {Q : Exit → Act → World → Prop} (hw : Region.wanted op (yielded ops a.tmps) = true) (ty : TypeId) (x : Operand) (ho : op.op = .load ty x)
    (b o : Nat) (hx : a.eval x = .pointer (some ⟨b, o, none⟩)) (cs : Array Value) (d : TypeDesc) (hc : w.rangeAt b o cs.toList)
    (hu : P.underlying ty = some d) (hd : d.isRow = true) (hi : (P.info? ty).map (·.size) = some cs.toList.length)
    (h : wpList P ops Q rest (a.put op.dst (.agg cs)) w) : wpList P ops Q (op :: rest) a w :=
  wpList_step fun K hK => by
    rw [if_pos hw]
    exact wp_load_mid ty x ho b o hx cs.toList d hc hu hd hi (hK _ _ (by simpa using h))
theorem Bg.own_lt {T e : TypeId} {w : World} {B b : Nat} {room : Int} {l : List Ep} {v : Value} (h : Bg T e 17 ec w B b room l v) {k : Nat} (hk : w.heap.size ≤ k) : v.ownBlock ≠ some k := fun e => by have := (h.row.lt k e).2; omega
theorem balloc2 (w : World) (o o2 : Obj) : Below w.heap.size w ((w.alloc o).alloc o2) := bstep (balloc w o) (balloc _ o2)

/-! New, Left, entry. -/
theorem new_no (room : Int) (w : World) (h : room < 1 ∨ 16 < room) :
    Calls Tryz.prog 29 #[.int .i64 room] w fun e w' => e = .returned (.tuple #[.pointer none, .int .i64 1]) ∧ w = w' := by
  rcases h with h | h
  · go_enter Tryz.func29, Tryz.ntmps29
    go_wp2
    go_ret2
    exact ⟨rfl, rfl⟩
  · have h1 : ¬ room < 1 := by omega
    go_enter Tryz.func29, Tryz.ntmps29
    go_wp2
    go_ret2
    exact ⟨rfl, rfl⟩
theorem new_yes (room : Int) (w : World) (h : 1 ≤ room) (h2 : room ≤ 16) :
    Calls Tryz.prog 29 #[.int .i64 room] w fun e w' => e = .returned (.tuple #[.pointer (some ⟨w.heap.size, 0, none⟩), .int .i64 0]) ∧ w.alloc (.cells #[.int .i64 room, .slice none 0 0] 140) = w' := by
  go_enter Tryz.func29, Tryz.ntmps29
  go_wp2
  go_ret2
  exact ⟨rfl, rfl⟩
theorem left_any {w : World} {B b : Nat} {room : Int} {l : List Ep} {v : Value} (h : BgP w B b room l v) (h1 : 0 ≤ room) (h2 : room ≤ 16) (hl : l.length ≤ 5000) :
    Calls Tryz.prog 94 #[.pointer (some ⟨b, 0, none⟩)] w fun e w' => e = .returned (.int .i64 (room - l.length)) ∧ ∃ n, w' = w.drewN n := by
  obtain ⟨p, cap, rfl, -⟩ := h.form
  have c0 := blk_cell h.blk 0
  have c1 := blk_cell h.blk 1
  simp at c0 c1
  clear h
  go_enter Tryz.func94, Tryz.ntmps94
  go_wp2
  go_quiet (fail)
  go_wp2
  go_ret
  exact ⟨rfl, _, rfl⟩
theorem entry_out {w : World} {B b : Nat} {room : Int} {l : List Ep} {v : Value} (h : BgP w B b room l v) (at_ : Int) (hn : at_ < 0 ∨ (l.length : Int) ≤ at_) :
    Calls Tryz.prog 95 #[.pointer (some ⟨b, 0, none⟩), .int .i64 at_] w fun e w' => e = .returned (.pointer none) ∧ w' = w := by
  obtain ⟨p, cap, rfl, -⟩ := h.form
  have c1 := blk_cell h.blk 1
  simp at c1
  clear h
  rcases hn with hn | hn
  · go_enter Tryz.func95, Tryz.ntmps95
    go_wp2
    go_ret
    exact ⟨rfl, rfl⟩
  · have hn1 : ¬ at_ < 0 := by omega
    go_enter Tryz.func95, Tryz.ntmps95
    go_wp2
    go_ret
    exact ⟨rfl, rfl⟩
theorem entry_at {w : World} {B b : Nat} {room : Int} {l : List Ep} {g cap : Nat} (h : BgP w B b room l (.slice (some ⟨g, 0, none⟩) l.length cap)) (i : Nat) (hi : i < l.length) :
    Calls Tryz.prog 95 #[.pointer (some ⟨b, 0, none⟩), .int .i64 i] w fun e w' => e = .returned (.pointer (some ⟨g, i * 17, none⟩)) ∧ w' = w := by
  have c1 := blk_cell h.blk 1
  simp at c1
  clear h
  go_enter Tryz.func95, Tryz.ntmps95
  go_wp2
  go_ret
  exact ⟨rfl, rfl⟩

/-! The closures. -/
theorem all_any (x : Ep) (w : World) :
    Calls Tryz.prog 102 #[.agg (ecells x)] w fun e w' => e = .returned (.bool (sentAll x.pl)) ∧ Below w.heap.size w w' := by
  have hb := balloc w (.cells (ecells x) 80)
  rcases Bool.eq_false_or_eq_true x.st with hs | hs
  · have HT : Hid (sentAll x.pl = ((x.l.length : Int) == 0)) := Lib.hid (by
      have e : sentAll x.pl = (x.st && x.l.isEmpty) := rfl
      rw [e, hs, Bool.true_and]
      generalize x.l = L
      cases L
      · rfl
      · simp
        omega)
    go_enter Tryz.func102, Tryz.ntmps102
    go_wp2
    go_ret
    exact ⟨ret_bool HT.out.symm, hb⟩
  · have HT : Hid (sentAll x.pl = false) := Lib.hid (by
      have e : sentAll x.pl = (x.st && x.l.isEmpty) := rfl
      rw [e, hs, Bool.false_and])
    go_enter Tryz.func102, Tryz.ntmps102
    go_wp2
    go_ret
    exact ⟨ret_bool HT.out.symm, hb⟩
abbrev rdV (p : Addr) : Value := .func (.func 97) #[] #[.pointer (some p)]
abbrev fnV (p q : Addr) : Value := .func (.func 104) #[] #[.pointer (some p), .pointer (some q)]
set_option maxHeartbeats 1000000 in
theorem rdF_any (x : Ep) (p : Addr) (g o : Nat) (ln : Int) (w : World) (hp : w.cell? p = some (.pointer (some ⟨g, o, none⟩))) (hc : w.cell? ⟨g, o + 1, none⟩ = some (.int .i64 ln)) :
    Calls Tryz.prog 97 #[.agg (ecells x), .pointer (some p)] w fun e w' => e = .returned (.bool (isL ln x.pl)) ∧ Below w.heap.size w w' := by
  have hp2 : ∀ o, (w.alloc o).cell? p = some (.pointer (some ⟨g, _, none⟩)) := fun o => Lib.cell?_alloc_some o hp
  have hc2 : ∀ o2, (w.alloc o2).cell? ⟨g, o + 1, none⟩ = some (.int .i64 ln) := fun o => Lib.cell?_alloc_some o hc
  have HT : Hid (isL ln x.pl = (x.m.ln == ln)) := Lib.hid rfl
  have hb := balloc w (.cells (ecells x) 80)
  go_enter Tryz.func97, Tryz.ntmps97
  go_wp2
  go_quiet (fail)
  go_wp2
  go_ret
  exact ⟨ret_bool HT.out.symm, below_drewN hb _⟩
theorem isF_1 {ln fr : Int} {x : En} (h : (x.m.ln == ln) = false) : isF ln fr x = false := by simp [isF, h]
theorem isF_2 {ln fr : Int} {x : En} (h : (x.m.fr == fr) = false) : isF ln fr x = false := by simp [isF, h]
theorem isF_3 {ln fr : Int} {x : En} (h : (x.m.kd != 3) = false) : isF ln fr x = false := by simp [isF, h]
theorem isF_4 {ln fr : Int} {x : En} (h1 : (x.m.ln == ln) = true) (h2 : (x.m.fr == fr) = true) (h3 : (x.m.kd != 3) = true) : isF ln fr x = sentAll x := by simp [isF, h1, h2, h3]
set_option maxHeartbeats 1000000 in
theorem fnF_any (x : Ep) (p q : Addr) (ln fr : Int) (w : World) (hp : w.cell? p = some (.int .i64 ln)) (hq : w.cell? q = some (.int .i64 fr)) :
    Calls Tryz.prog 104 #[.agg (ecells x), .pointer (some p), .pointer (some q)] w fun e w' => e = .returned (.bool (isF ln fr x.pl)) ∧ Below w.heap.size w w' := by
  have hp2 : ∀ o, (w.alloc o).cell? p = some (.int .i64 ln) := fun o => Lib.cell?_alloc_some o hp
  have hq2 : ∀ o, (w.alloc o).cell? q = some (.int .i64 fr) := fun o => Lib.cell?_alloc_some o hq
  have hb := balloc w (.cells (ecells x) 80)
  rcases Bool.eq_false_or_eq_true (x.m.ln == ln) with h1 | h1
  · rcases Bool.eq_false_or_eq_true (x.m.fr == fr) with h2 | h2
    · rcases Bool.eq_false_or_eq_true (x.m.kd != 3) with h3 | h3
      · have HT := Lib.hid (isF_4 (x := x.pl) h1 h2 h3)
        have HA := Lib.hid (all_any x (w.alloc (.cells (ecells x) 80)))
        have hg := heap_alloc_new w (.cells (ecells x) 80)
        go_enter Tryz.func104, Tryz.ntmps104
        go_wp2_with (first
          | ((with_reducible refine wpList_load_guarded (o := ⟨some 24, _, _, _, _, _⟩) ?lw 80 (.tmp 3) rfl w.heap.size ?lx 80 (ecells x) (0, 0) _ ?lg Tryz.underlying80 ?ld ?li ?_); (case lw => rfl); (case lx => rfl); (case lg => exact hg); (case ld => rfl); (case li => kernel_rfl))
          | (go_at_call 102; refine HA.out.mono ?_; rintro e w1 ⟨rfl, hb1⟩))
        go_ret
        exact ⟨ret_bool HT.out.symm, bbox hb1⟩
      · have HT := Lib.hid (isF_3 (x := x.pl) (ln := ln) (fr := fr) h3)
        go_enter Tryz.func104, Tryz.ntmps104
        go_wp2
        go_ret
        exact ⟨ret_bool HT.out.symm, hb⟩
    · have HT := Lib.hid (isF_2 (x := x.pl) (ln := ln) h2)
      go_enter Tryz.func104, Tryz.ntmps104
      go_wp2
      go_ret
      exact ⟨ret_bool HT.out.symm, hb⟩
  · have HT := Lib.hid (isF_1 (x := x.pl) (fr := fr) h1)
    go_enter Tryz.func104, Tryz.ntmps104
    go_wp2
    go_ret
    exact ⟨ret_bool HT.out.symm, hb⟩

set_option maxHeartbeats 1000000 in
theorem indexFuncR (f : Ep → Bool) (a : Option Addr) (l : List Ep) (cp : Nat) (p : Addr) (w : World) (hl : EpIn w a l) (hn : l.length ≤ 5000) (hF : ∀ x ∈ l, ∀ wr, Below w.heap.size w wr → Calls Tryz.prog 97 #[.agg (ecells x), .pointer (some p)] wr fun e w' => e = .returned (.bool (f x)) ∧ Below wr.heap.size wr w') :
    Calls Tryz.prog 126 #[.slice a l.length cp, rdV p] w fun e w' => e = .returned (.int .i64 (oi (l.findIdx? f))) ∧ Below w.heap.size w w' := by
  have HL := Lib.hid hl
  have HF := Lib.hid hF
  clear hl hF
  go_enter Tryz.func126, Tryz.ntmps126
  go_wp2
  go_loopw [8] (fun i wr => ∃ k : Nat, k ≤ l.length ∧ i = .int .i64 k ∧ Hid (∀ (j : Nat) (x : Ep), j < k → l[j]? = some x → f x = false) ∧ Below w.heap.size w wr) (fun i _ => l.length - (intOf i).toNat)
  case atStart => exact ⟨0, by omega, rfl, Lib.hid (fun j x hj => by omega), Below.refl _ _⟩
  case round =>
    obtain ⟨k, hk, rfl, HJ, hb⟩ := hrel
    by_cases hlt : k < l.length
    · obtain ⟨x, hx⟩ : ∃ x, l[k]? = some x := ⟨_, List.getElem?_eq_getElem hlt⟩
      obtain ⟨g, rfl, hg, hr⟩ := HL.out.step hb k x hx
      have HR := Lib.hid hr
      have HC := Lib.hid (HF.out x (List.mem_of_getElem? hx) wr hb)
      have HX := Lib.hid hx
      clear hx hr
      go_wp2_with (first
        | ((with_reducible refine wpList_load_at (op := ⟨some 15, _, _, _, _, _⟩) rfl 80 (.tmp 14) rfl g (k * 17) ?lx (ecells x) _ ?lc Tryz.underlying80 ?ld ?li ?_); (case lx => rfl); (case lc => exact HR.out); (case ld => rfl); (case li => kernel_rfl))
        | (go_at_call 97; refine HC.out.mono ?_; rintro e w1 ⟨rfl, hb1⟩))
      · have h : f x = true := by assumption
        go_ret
        exact ⟨ret_int (by rw [find_some HX.out h HJ.out]; rfl), bstep hb hb1⟩
      · have h : f x = false := by assumption
        have HK : Hid (∀ (j : Nat) (y : Ep), j < k + 1 → l[j]? = some y → f y = false) := Lib.hid (fun j y hj hy => by
          by_cases e : j = k
          · subst e
            obtain rfl : x = y := Option.some.inj (HX.out.symm.trans hy)
            exact h
          · exact HJ.out j y (by omega) hy)
        have hB := bstep hb hb1
        clear h
        go_roundw
        case rel => exact ⟨k + 1, by omega, by go_num, HK, hB⟩
        case measure => simp [intOf]; omega
    · have HK : Hid (oi (l.findIdx? f) = -1) := Lib.hid (by rw [find_none (fun j x hx => HJ.out j x (by have := (List.getElem?_eq_some_iff.1 hx).1; omega) hx)]; rfl)
      go_wp2
      go_ret
      exact ⟨ret_int HK.out.symm, hb⟩
theorem placeR (f : Ep → Bool) {w : World} {B b : Nat} {room : Int} {l : List Ep} {v : Value} (h : BgP w B b room l v) (p : Addr) (hn : l.length ≤ 5000) (hF : ∀ x ∈ l, ∀ wr, Below w.heap.size w wr → Calls Tryz.prog 97 #[.agg (ecells x), .pointer (some p)] wr fun e w' => e = .returned (.bool (f x)) ∧ Below wr.heap.size wr w') :
    Calls Tryz.prog 96 #[.pointer (some ⟨b, 0, none⟩), rdV p] w fun e w' => e = .returned (.int .i64 (oi (l.findIdx? f))) ∧ Below w.heap.size w w' := by
  obtain ⟨a, cap, rfl, hin⟩ := h.ins
  have HC := Lib.hid (indexFuncR f a l cap p w hin hn hF)
  have c1 := blk_cell h.blk 1
  simp at c1
  clear h hin hF
  go_enter Tryz.func96, Tryz.ntmps96
  go_wp2_with (go_at_call 126; refine HC.out.mono ?_; rintro e w1 ⟨rfl, hb1⟩)
  go_ret
  exact ⟨rfl, hb1⟩

set_option maxHeartbeats 1000000 in
theorem indexFuncF (f : Ep → Bool) (a : Option Addr) (l : List Ep) (cp : Nat) (p q : Addr) (w : World) (hl : EpIn w a l) (hn : l.length ≤ 5000) (hF : ∀ x ∈ l, ∀ wr, Below w.heap.size w wr → Calls Tryz.prog 104 #[.agg (ecells x), .pointer (some p), .pointer (some q)] wr fun e w' => e = .returned (.bool (f x)) ∧ Below wr.heap.size wr w') :
    Calls Tryz.prog 126 #[.slice a l.length cp, fnV p q] w fun e w' => e = .returned (.int .i64 (oi (l.findIdx? f))) ∧ Below w.heap.size w w' := by
  have HL := Lib.hid hl
  have HF := Lib.hid hF
  clear hl hF
  go_enter Tryz.func126, Tryz.ntmps126
  go_wp2
  go_loopw [8] (fun i wr => ∃ k : Nat, k ≤ l.length ∧ i = .int .i64 k ∧ Hid (∀ (j : Nat) (x : Ep), j < k → l[j]? = some x → f x = false) ∧ Below w.heap.size w wr) (fun i _ => l.length - (intOf i).toNat)
  case atStart => exact ⟨0, by omega, rfl, Lib.hid (fun j x hj => by omega), Below.refl _ _⟩
  case round =>
    obtain ⟨k, hk, rfl, HJ, hb⟩ := hrel
    by_cases hlt : k < l.length
    · obtain ⟨x, hx⟩ : ∃ x, l[k]? = some x := ⟨_, List.getElem?_eq_getElem hlt⟩
      obtain ⟨g, rfl, hg, hr⟩ := HL.out.step hb k x hx
      have HR := Lib.hid hr
      have HC := Lib.hid (HF.out x (List.mem_of_getElem? hx) wr hb)
      have HX := Lib.hid hx
      clear hx hr
      go_wp2_with (first
        | ((with_reducible refine wpList_load_at (op := ⟨some 15, _, _, _, _, _⟩) rfl 80 (.tmp 14) rfl g (k * 17) ?lx (ecells x) _ ?lc Tryz.underlying80 ?ld ?li ?_); (case lx => rfl); (case lc => exact HR.out); (case ld => rfl); (case li => kernel_rfl))
        | (go_at_call 104; refine HC.out.mono ?_; rintro e w1 ⟨rfl, hb1⟩))
      · have h : f x = true := by assumption
        go_ret
        exact ⟨ret_int (by rw [find_some HX.out h HJ.out]; rfl), bstep hb hb1⟩
      · have h : f x = false := by assumption
        have HK : Hid (∀ (j : Nat) (y : Ep), j < k + 1 → l[j]? = some y → f y = false) := Lib.hid (fun j y hj hy => by
          by_cases e : j = k
          · subst e
            obtain rfl : x = y := Option.some.inj (HX.out.symm.trans hy)
            exact h
          · exact HJ.out j y (by omega) hy)
        have hB := bstep hb hb1
        clear h
        go_roundw
        case rel => exact ⟨k + 1, by omega, by go_num, HK, hB⟩
        case measure => simp [intOf]; omega
    · have HK : Hid (oi (l.findIdx? f) = -1) := Lib.hid (by rw [find_none (fun j x hx => HJ.out j x (by have := (List.getElem?_eq_some_iff.1 hx).1; omega) hx)]; rfl)
      go_wp2
      go_ret
      exact ⟨ret_int HK.out.symm, hb⟩
theorem placeF (f : Ep → Bool) {w : World} {B b : Nat} {room : Int} {l : List Ep} {v : Value} (h : BgP w B b room l v) (p q : Addr) (hn : l.length ≤ 5000) (hF : ∀ x ∈ l, ∀ wr, Below w.heap.size w wr → Calls Tryz.prog 104 #[.agg (ecells x), .pointer (some p), .pointer (some q)] wr fun e w' => e = .returned (.bool (f x)) ∧ Below wr.heap.size wr w') :
    Calls Tryz.prog 96 #[.pointer (some ⟨b, 0, none⟩), fnV p q] w fun e w' => e = .returned (.int .i64 (oi (l.findIdx? f))) ∧ Below w.heap.size w w' := by
  obtain ⟨a, cap, rfl, hin⟩ := h.ins
  have HC := Lib.hid (indexFuncF f a l cap p q w hin hn hF)
  have c1 := blk_cell h.blk 1
  simp at c1
  clear h hin hF
  go_enter Tryz.func96, Tryz.ntmps96
  go_wp2_with (go_at_call 126; refine HC.out.mono ?_; rintro e w1 ⟨rfl, hb1⟩)
  go_ret
  exact ⟨rfl, hb1⟩

end Go.Proofs.YtpknfbgnclgpmaaGreatDoor.Qu

/-
  Messages' rows; Clone of messages and of entries; copied, List.
-/
namespace Go.Proofs.YtpknfbgnclgpmaaGreatDoor.Qu
open Go Go.RowKit

theorem mg_cells (l : List Msg) : ∀ u ∈ cellsOf mg l, u.oneCell' = true := by
  intro u hu
  obtain ⟨m, _, hm⟩ := List.mem_flatMap.1 hu
  simp [mg] at hm
  rcases hm with rfl | rfl | rfl | rfl | rfl | rfl | rfl | rfl | rfl | rfl | rfl | rfl | rfl | rfl | rfl <;> rfl
theorem A35 : (Tryz.prog.info? 38).map (fun i => (i.zero, i.size, i.bytes)) = some (some (.agg (mcells z0)), 15, 120) := by kernel_rfl

/-- Where a slice's messages lie. -/
def MIn (w : World) (p : Option Addr) (l : List Msg) : Prop := ∀ i x, l[i]? = some x → ∃ g o, p = some ⟨g, o, none⟩ ∧ g < w.heap.size ∧ w.rangeAt g (o + i * 15) (mg x)
theorem MIn.keep {w w' : World} {p : Option Addr} {l : List Msg} (h : MIn w p l) (hs : w.heap.size ≤ w'.heap.size) (hk : l ≠ [] → ∀ a, p = some a → a.block < w.heap.size → w'.heap[a.block]? = w.heap[a.block]?) : MIn w' p l := fun i x hx => by
  obtain ⟨g, o, e, hg, hr⟩ := h i x hx
  subst e
  exact ⟨g, o, rfl, Nat.lt_of_lt_of_le hg hs, fun j v hv => (World.cell?_of_block (a := ⟨g, o + i * 15 + j, none⟩) (hk (fun e => by rw [e] at hx; cases hx) ⟨g, o, none⟩ rfl hg)).trans (hr j v hv)⟩
theorem MIn.step {w w' : World} {p : Option Addr} {l : List Msg} (h : MIn w p l) (hb : Below w.heap.size w w') : MIn w' p l := h.keep hb.size fun _ _ _ hlt => hb.block _ hlt
theorem MIn.nil (w : World) (p : Option Addr) : MIn w p [] := fun i x hx => by cases hx
theorem MIn.lt {w : World} {p : Option Addr} {l : List Msg} (h : MIn w p l) (hl : l ≠ []) : ∀ a, p = some a → a.block < w.heap.size := fun a ha => by
  obtain ⟨x, hx⟩ : ∃ x, l[0]? = some x := by cases l with | nil => exact absurd rfl hl | cons x l => exact ⟨x, rfl⟩
  obtain ⟨g, o, e, hg, _⟩ := h 0 x hx
  rw [ha] at e; cases e; exact hg
/-- The cells of all of them, one behind the other. -/
theorem MIn.all {w : World} {g o : Nat} {l : List Msg} (h : MIn w (some ⟨g, o, none⟩) l) : ∀ j u, (cellsOf mg l)[j]? = some u → w.cell? ⟨g, o + j, none⟩ = some u := fun j u hj => by
  have hl := (List.getElem?_eq_some_iff.1 hj).1
  rw [cellsOf_len mg_len] at hl
  have hi : j / 15 < l.length := by omega
  obtain ⟨g', o', e, _, hr⟩ := h (j / 15) l[j / 15] (List.getElem?_eq_getElem hi)
  obtain ⟨rfl, rfl⟩ : g = g' ∧ o = o' := by simpa using e
  have e2 : j / 15 * 15 + j % 15 = j := by omega
  have e1 := cellsOf_at mg_len l (j / 15) (j % 15) hi (by omega)
  rw [e2] at e1
  rw [e1] at hj
  have := hr (j % 15) u hj
  rwa [Nat.add_assoc, e2] at this
theorem own_min {w : World} {B e : Nat} {v : Value} {l : List Msg} (h : w.ownsRow B e 15 v l.length (cellsOf mg l)) : ∃ p c, v = .slice p l.length c ∧ MIn w p l ∧ (∀ a, p = some a → B ≤ a.block) ∧ l.length ≤ c := by
  rcases h.2 with ⟨rfl, h0⟩ | ⟨g, cap, cur, rfl, hb, hg, rest⟩
  · have e : l = [] := List.eq_nil_of_length_eq_zero h0
    subst e
    exact ⟨none, 0, rfl, MIn.nil _ _, fun a ha => (by cases ha), Nat.le_refl _⟩
  · refine ⟨_, cap, rfl, fun i x hx => ⟨g, 0, rfl, lt_of_block hg, fun j u hu => ?_⟩, fun a ha => (by cases ha; exact hb), rest.1⟩
    obtain ⟨hi, rfl⟩ := List.getElem?_eq_some_iff.1 hx
    have hj : j < 15 := by
      have := (List.getElem?_eq_some_iff.1 hu).1
      rwa [mg_len] at this
    have := h.cells (g := g) rfl (i * 15 + j) u (by rw [cellsOf_at mg_len l i j hi hj]; exact hu)
    rwa [Addr.add_lit, Nat.zero_add, ← Nat.zero_add (i * 15)] at this

/-- What a call gives that makes a list of messages of its own. -/
def CloneGave (l : List Msg) (w : World) (e : Ending) (w' : World) : Prop := ∃ p c, e = .returned (.slice p l.length c) ∧ MIn w' p l ∧ (∀ a, p = some a → w.heap.size ≤ a.block) ∧ l.length ≤ c ∧ Below w.heap.size w w'
set_option maxHeartbeats 1000000 in
theorem cloneM_any {w : World} {p : Option Addr} {c : Nat} {l : List Msg} (h : MIn w p l) (hl : l.length ≤ 5000) :
    Calls Tryz.prog 115 #[.slice p l.length c] w (CloneGave l w) := by
  obtain ⟨i0, hi0, hz0, hz1, hz2⟩ := info_parts A35
  have hq := fun (w : World) (a : Option Addr) (n c n' c' : Nat) => Lib.run_eql_slice_nil (P := Tryz.prog) w 78 38 a n c n' c' Tryz.underlying78
  rcases p with _ | ad
  · have e : l = [] := by
      cases l with
      | nil => rfl
      | cons x l => obtain ⟨g, o, e, _⟩ := h 0 x rfl; cases e
    subst e
    clear h hl
    go_enter Tryz.func115, Tryz.ntmps115
    go_wp2
    go_ret
    exact ⟨none, 0, rfl, MIn.nil _ _, fun a ha => (by cases ha), Nat.le_refl _, Below.refl _ _⟩
  · have hcell : ∀ (o : Obj) j u, (cellsOf mg l)[j]? = some u → (w.alloc o).cell? (ad.add j) = some u := fun o j u hj => by
      have hne : l ≠ [] := fun e => by rw [e] at hj; cases hj
      obtain ⟨x, hx⟩ : ∃ x, l[0]? = some x := by cases l with | nil => exact absurd rfl hne | cons x l => exact ⟨x, rfl⟩
      obtain ⟨g, o', e, _, _⟩ := h 0 x hx
      cases e
      rw [Addr.add_lit]
      exact Lib.cell?_alloc_some o (h.all j u hj)
    have HC := Lib.hid hcell
    have HL := Lib.hid (cellsOf_len mg_len l)
    have H1 : Hid (∀ u ∈ cellsOf mg l, u.oneCell' = true) := Lib.hid (mg_cells l)
    clear h hcell
    go_enter Tryz.func115, Tryz.ntmps115
    go_wp2_with (at_builtin; refine wpList_append_own _ rfl (.tmp 5) (.tmp 6) 78 rfl w.heap.size 38 i0 (.agg (mcells z0)) 15 120 Tryz.underlying78 hi0 hz0 hz1 hz2 rfl (by decide) _ _ _ rfl (World.ownsRow_made w #[] 0 (Nat.le_refl _) (Nat.zero_le _) rfl) ad l.length c (cellsOf mg l) rfl HL.out ?c1 H1.out ?c3 ?c4 ?c5 ?_)
    case c1 => exact HC.out _
    case c3 => simp only [maxLen]; omega
    case c4 => omega
    case c5 => simp
    intro v' w1 hown hgrow hnil
    obtain ⟨p', c', rfl, hin, hfr, hlc⟩ := own_min (l := l) (by simpa using hown)
    have hB : Below w.heap.size w w1 := ((Below.refl _ w).alloc (Nat.le_refl _) _).grown hgrow (by simp) (by intro k hk; simp [Value.ownBlock] at hk; omega)
    clear hown hgrow hnil
    go_wp2
    go_ret
    exact ⟨p', c', rfl, hin, hfr, hlc, hB⟩

/-! copied. -/
/-- The call's own first two blocks, and that nothing of before has changed. -/
structure H2 (w : World) (A B : Array Value) (T T' : TypeId) (wr : World) : Prop where
  a : wr.heap[w.heap.size]? = some (.cells A T (0, 0))
  b : wr.heap[w.heap.size + 1]? = some (.cells B T' (0, 0))
  below : Below w.heap.size w wr
theorem H2.box (w : World) (A B : Array Value) (T T' : TypeId) : H2 w A B T T' ((w.alloc (.cells A T)).alloc (.cells B T')) :=
  ⟨new_at1 w _ _, new_at2 w _ _, ((Below.refl _ _).alloc (Nat.le_refl _) _).alloc (by simp) _⟩
theorem H2.step {w wr wr' : World} {A B : Array Value} {T T' : TypeId} (h : H2 w A B T T' wr) (hb : Below wr.heap.size wr wr') : H2 w A B T T' wr' :=
  ⟨(hb.block _ (lt_of_block h.a)).trans h.a, (hb.block _ (lt_of_block h.b)).trans h.b, bstep h.below hb⟩
theorem H2.setA {w wr : World} {A B : Array Value} {T T' : TypeId} (h : H2 w A B T T' wr) (i : Nat) (u : Value) : H2 w (A.setIfInBounds i u) B T T' (wr.setCell ⟨w.heap.size, i, none⟩ u) :=
  ⟨heap_setCell_same wr _ i _ _ u h.a, (heap_setCell_other _ _ _ _ (by simp)).trans h.b, h.below.setCell (by simp) u⟩
theorem H2.cellsA {w wr : World} {A B : Array Value} {T T' : TypeId} (h : H2 w A B T T' wr) : ∀ o, wr.cell? ⟨w.heap.size, o, none⟩ = A[o]? := fun o => blk_cell h.a o
/-- What a call gives that tells an entry whose messages are its own. -/
def CopyGave (x : Ep) (w : World) (e : Ending) (w' : World) : Prop := ∃ y : Ep, e = .returned (.agg (ecells y)) ∧ y.pl = x.pl ∧ MIn w' y.p y.l ∧ (∀ a, y.p = some a → w.heap.size ≤ a.block) ∧ Below w.heap.size w w'
abbrev zec : Array Value := #[.int .i64 0, .int .i64 0, .int .i64 0, .int .i64 0, .int .i64 0, .int .i64 0, .int .i64 0, .int .i64 0, .int .i64 0, .int .i64 0, .int .i64 0, .int .i64 0, .int .i64 0, .int .i64 0, .int .i64 0, .bool false, .slice none 0 0]
set_option maxHeartbeats 2000000 in
theorem copied_any (x : Ep) (w : World) (hl : x.l.length ≤ 5000) (h : MIn w x.p x.l) :
    Calls Tryz.prog 79 #[.agg (ecells x)] w (CopyGave x w) := by
  have K := H2.box w (ecells x) zec 80 80
  have H := Lib.hid h
  clear h
  have HZ : Hid (((w.alloc (.cells (ecells x) 80)).alloc (.cells zec 80)).heap.size = w.heap.size + 2) := Lib.hid (by simp)
  go_enter Tryz.func79, Tryz.ntmps79
  go_wp2_with (fail)
  refine (cloneM_any (H.out.step K.below) hl).mono ?_
  rintro _ w1 ⟨q, c', rfl, hin, hfr, -, hb1⟩
  rw [HZ.out] at hfr
  have K2 := K.step hb1
  have hc2 := K2.cellsA
  have hf2 := blk_free K2.a 16
  obtain ⟨y, hy⟩ : ∃ y : Ep, y = ⟨x.m, x.st, x.l, q, c'⟩ := ⟨_, rfl⟩
  have K3 : H2 w (ecells y) zec 80 80 (w1.setCell ⟨w.heap.size, 16, none⟩ (.slice q x.l.length c')) := by
    have := K2.setA 16 (.slice q x.l.length c')
    rw [hy]
    exact this
  have HN : Hid (MIn (w1.setCell ⟨w.heap.size, 16, none⟩ (.slice q x.l.length c')) y.p y.l) := Lib.hid (by
    rw [hy]
    exact hin.keep (by simp [World.setCell]) fun _ a ha _ => heap_setCell_other _ _ _ _ (by have := hfr a ha; simp only; omega))
  have HF : Hid (∀ a, y.p = some a → w.heap.size + 2 ≤ a.block) := Lib.hid (by rw [hy]; exact hfr)
  have HY : Hid (y.pl = x.pl) := Lib.hid (by rw [hy]; rfl)
  clear K hb1 hin hfr hy
  go_wp2_with (first
    | ((with_reducible refine wpList_load_row (o := ⟨some 7, _, _, _, _, _⟩) rfl 80 (.tmp 1) rfl w.heap.size ?lx 80 (ecells y) (0, 0) _ ?lg Tryz.underlying80 ?ld ?li ?_); (case lx => rfl); (case lg => exact K3.a); (case ld => rfl); (case li => kernel_rfl))
    | ((with_reducible refine wpList_store_row (o := ⟨none, _, _, _, _, _⟩) rfl 80 (.tmp 2) (.tmp 7) rfl (w.heap.size + 1) (ecells y) ?sx ?sy 80 zec ?sg ?si ?so ?s1 ?_); (case sx => rfl); (case sy => rfl); (case sg => exact K3.b); (case si => kernel_rfl); (case so => rfl); (case s1 => kernel_rfl)))
  exact bodyPost_ret (v := .agg (ecells y)) (results_cell_row Tryz.results79 _ _ (w.heap.size + 1) 80 _ (0, 0) _ rfl (setRow_heap _ _ _ _ _ _ K3.b) Tryz.underlying80 rfl (by kernel_rfl)) rfl
    ⟨y, rfl, HY.out, HN.out.keep (by simp) fun _ a ha _ => setRow_other _ _ _ _ (by have := HF.out a ha; omega), fun a ha => by have := HF.out a ha; omega, below_setRow K3.below (by omega) _⟩

end Go.Proofs.YtpknfbgnclgpmaaGreatDoor.Qu

/-
  A queue in memory with its messages; Clone of entries, List; Ready, Get, Next.
-/
namespace Go.Proofs.YtpknfbgnclgpmaaGreatDoor.Qu
open Go Go.RowKit

/-! Lists of entries that may be read. -/
def EIn (w : World) (p : Option Addr) (l : List Ep) : Prop := (∀ i x, l[i]? = some x → ∃ g o, p = some ⟨g, o, none⟩ ∧ g < w.heap.size ∧ w.rangeAt g (o + i * 17) (ec x)) ∧ ∀ x ∈ l, MIn w x.p x.l
/-- They lie in blocks from n on. -/
def Frsh (n : Nat) (p : Option Addr) (l : List Ep) : Prop := (∀ a, p = some a → n ≤ a.block) ∧ ∀ x ∈ l, ∀ a, x.p = some a → n ≤ a.block
theorem EIn.keep {w w' : World} {p : Option Addr} {l : List Ep} (h : EIn w p l) (hs : w.heap.size ≤ w'.heap.size) (hk : ∀ a, p = some a → a.block < w.heap.size → w'.heap[a.block]? = w.heap[a.block]?) (hm : ∀ x ∈ l, x.l ≠ [] → ∀ a, x.p = some a → a.block < w.heap.size → w'.heap[a.block]? = w.heap[a.block]?) : EIn w' p l :=
  ⟨fun i x hx => by
    obtain ⟨g, o, rfl, hg, hr⟩ := h.1 i x hx
    exact ⟨g, o, rfl, Nat.lt_of_lt_of_le hg hs, fun j v hv => (World.cell?_of_block (a := ⟨g, o + i * 17 + j, none⟩) (hk ⟨g, o, none⟩ rfl hg)).trans (hr j v hv)⟩,
   fun x hx => (h.2 x hx).keep hs (hm x hx)⟩
theorem EIn.step {w w' : World} {p : Option Addr} {l : List Ep} (h : EIn w p l) (hb : Below w.heap.size w w') : EIn w' p l := h.keep hb.size (fun _ _ hlt => hb.block _ hlt) fun _ _ _ _ _ hlt => hb.block _ hlt
theorem EIn.nil (w : World) (p : Option Addr) : EIn w p [] := ⟨fun i x hx => (by cases hx), fun x hx => (by cases hx)⟩
theorem EIn.at {w : World} {p : Option Addr} {l : List Ep} (h : EIn w p l) {i : Nat} {x : Ep} (hx : l[i]? = some x) : (∃ g o, p = some ⟨g, o, none⟩ ∧ g < w.heap.size ∧ w.rangeAt g (o + i * 17) (ec x)) ∧ MIn w x.p x.l := ⟨h.1 i x hx, h.2 x (List.mem_of_getElem? hx)⟩

/-- A queue in memory: its block, the row of its entries, and that their messages lie where it writes nothing. -/
structure Qu (T e : TypeId) (w : World) (B b : Nat) (room : Int) (l : List Ep) (v : Value) : Prop where
  bg : Bg T e 17 ec w B b room l v
  sd : ∀ x ∈ l, MIn w x.p x.l ∧ (x.l ≠ [] → ∀ a, x.p = some a → B ≤ a.block ∧ a.block ≠ b ∧ v.ownBlock ≠ some a.block)
  cp : ∀ x ∈ l, x.l.length ≤ x.c
theorem Qu.keep {T e : TypeId} {w w' : World} {B b : Nat} {room : Int} {l : List Ep} {v : Value} (h : Qu T e w B b room l v) (hs : w.heap.size ≤ w'.heap.size) (h1 : w'.heap[b]? = w.heap[b]?) (h2 : ∀ k, v.ownBlock = some k → w'.heap[k]? = w.heap[k]?) (h3 : ∀ x ∈ l, x.l ≠ [] → ∀ a, x.p = some a → a.block < w.heap.size → w'.heap[a.block]? = w.heap[a.block]?) : Qu T e w' B b room l v :=
  ⟨h.bg.keep h1 h2, fun x hx => ⟨(h.sd x hx).1.keep hs (h3 x hx), (h.sd x hx).2⟩, h.cp⟩
theorem Qu.below {T e : TypeId} {w w' : World} {B b : Nat} {room : Int} {l : List Ep} {v : Value} (h : Qu T e w B b room l v) (hb : Below w.heap.size w w') : Qu T e w' B b room l v :=
  ⟨h.bg.below hb, fun x hx => ⟨(h.sd x hx).1.step hb, (h.sd x hx).2⟩, h.cp⟩
abbrev QuP := Qu 140 80
abbrev QuR := Qu 59 104

/-! One entry of a row of the call's own is set anew. -/
theorem own_store {w : World} {B e g cap : Nat} {l : List Ep} (h : w.ownsRow B e 17 (.slice (some ⟨g, 0, none⟩) l.length cap) l.length (cellsOf ec l)) {i : Nat} {x : Ep} (hx : l[i]? = some x) (y : Ep) :
    (w.setCells g (i * 17) (ec y)).ownsRow B e 17 (.slice (some ⟨g, 0, none⟩) l.length cap) (l.set i y).length (cellsOf ec (l.set i y)) := by
  have hi := (List.getElem?_eq_some_iff.1 hx).1
  obtain ⟨hlen, hh⟩ := h
  rcases hh with ⟨e0, h0⟩ | ⟨g', cap', cur, e0, hB, hgg, h1, h2, h3, h4⟩
  · cases e0
  · obtain ⟨rfl, rfl⟩ : g = g' ∧ cap = cap' := by simpa using e0
    have hfit : l.length * 17 ≤ cap * 17 := Nat.mul_le_mul_right _ h1
    have hi17 : (i + 1) * 17 ≤ l.length * 17 := Nat.mul_le_mul_right _ hi
    rw [Nat.add_mul] at hi17
    have hvl : (ec y).length = 17 := rfl
    have hst := heap_setCells_row g e (ec y) (i * 17) cur w hgg (by omega)
    rw [List.length_set]
    refine ⟨by rw [cellsOf_len ec_len, List.length_set], .inr ⟨g, cap, _, rfl, hB, hst, h1, h2, ?_, ?_⟩⟩
    · simp only [List.size_toArray, List.length_append, List.length_take, List.length_drop, Array.length_toList]
      omega
    · rw [List.toList_toArray]
      have e5 : cur.toList.drop (i * 17 + (ec y).length) = (cellsOf ec l).drop (i * 17 + (ec y).length) ++ cur.toList.drop (l.length * 17) := by
        have : cur.toList = cellsOf ec l ++ cur.toList.drop (l.length * 17) := by rw [← h4, List.take_append_drop]
        conv => lhs; rw [this]
        rw [List.drop_append_of_le_length (by rw [hlen]; omega)]
      have e6 : cur.toList.take (i * 17) = (cellsOf ec l).take (i * 17) := by
        rw [← h4, List.take_take, Nat.min_eq_left (by omega)]
      have e7 := cells_set hx (y := y) 0 (ec y) (by rw [hvl]; omega) (fun m _ => by rw [Nat.zero_add]) (fun m hm h => by omega)
      rw [Nat.add_zero] at e7
      rw [e5, e6, ← List.append_assoc, e7]
      have : (cellsOf ec (l.set i y)).length = l.length * 17 := by rw [cellsOf_len ec_len, List.length_set]
      rw [← this, List.take_left']
      rfl
theorem own_there {w : World} {B e g cap : Nat} {l : List Ep} (h : w.ownsRow B e 17 (.slice (some ⟨g, 0, none⟩) l.length cap) l.length (cellsOf ec l)) {i : Nat} (hi : i < l.length) : w.there g (i * 17) 17 := by
  rcases h.2 with ⟨e0, h0⟩ | ⟨g', cap', cur, e0, hB, hgg, h1, h2, h3, h4⟩
  · cases e0
  · obtain ⟨rfl, rfl⟩ : g = g' ∧ cap = cap' := by simpa using e0
    have hfit : l.length * 17 ≤ cap * 17 := Nat.mul_le_mul_right _ h1
    have hi17 : (i + 1) * 17 ≤ l.length * 17 := Nat.mul_le_mul_right _ hi
    rw [Nat.add_mul] at hi17
    exact fun j hj => ⟨by rw [blk_cell hgg, Array.getElem?_eq_getElem (by omega)]; rfl, blk_free hgg _⟩
theorem only_setCells (g o : Nat) (vs : List Value) (w : World) : Only g w (w.setCells g o vs) := by
  obtain ⟨h1, h2, h3, h4⟩ := setCells_rest g vs o w
  exact ⟨h1, h2, h3, h4, fun k hk => heap_setCells_other g vs o w k hk⟩
theorem Only.below {g B : Nat} {w w1 w2 : World} (h : Below B w w1) (ho : Only g w1 w2) (hg : B ≤ g) : Below B w w2 :=
  h.trans ⟨ho.os, ho.tape, ho.output, by have := ho.size; omega, fun k hk => ho.other k (by omega)⟩
/-- The store of a whole entry: the world behind is a variable. -/
theorem wpList_store_elem {P : Program} {ops : Array Oper} {rest : List Oper} {op : Oper} {a : Act} {w : World} {Q : Exit → Act → World → Prop} (hgd : op.guard = none) (ty : TypeId) (x y : Operand) (ho : op.op = .store ty x y)
    (B e g i cap : Nat) (M : List Ep) (z nw : Ep) (hax : a.eval x = .pointer (some ⟨g, i * 17, none⟩)) (hay : a.eval y = .agg (ecells nw)) (hown : w.ownsRow B e 17 (.slice (some ⟨g, 0, none⟩) M.length cap) M.length (cellsOf ec M)) (hz : M[i]? = some z) (hi : (P.info? ty).map (·.size) = some 17)
    (h : ∀ w', w'.ownsRow B e 17 (.slice (some ⟨g, 0, none⟩) M.length cap) (M.set i nw).length (cellsOf ec (M.set i nw)) → Only g w w' → wpList P ops Q rest (a.put op.dst undef) w') : wpList P ops Q (op :: rest) a w :=
  wpList_store_mid hgd ty x y ho g (i * 17) (ecells nw) hax hay (own_there hown (List.getElem?_eq_some_iff.1 hz).1) (by simpa using hi) (all_oneCell_toArray (ec_one nw)) (h _ (own_store hown hz nw) (only_setCells _ _ _ _))

/-- Clone of entries. -/
theorem cloneE_any {w : World} {B : Nat} {v : Value} {l : List Ep} (h : w.ownsRow B 80 17 v l.length (cellsOf ec l)) (hl : l.length ≤ 5000) :
    Calls Tryz.prog 78 #[v] w (RowGave 80 17 ec l w) := by
  obtain ⟨i0, hi0, hz0, hz1, hz2⟩ := info_parts A57
  have hq := fun (w : World) (a : Option Addr) (n c n' c' : Nat) => Lib.run_eql_slice_nil (P := Tryz.prog) w 56 80 a n c n' c' Tryz.underlying56
  rcases h.2 with ⟨rfl, h0⟩ | ⟨g, cap, cur, rfl, hb, hg, rest⟩
  · have e : l = [] := List.eq_nil_of_length_eq_zero h0
    subst e
    clear h h0 hl
    go_enter Tryz.func78, Tryz.ntmps78
    go_wp2
    go_ret
    exact ⟨_, rfl, World.ownsRow_nil _ _ _ _, Below.refl _ _⟩
  · have hcell := h.cells (g := g) rfl
    have HC := Lib.hid hcell
    have HL := Lib.hid (cellsOf_len ec_len l)
    have H1 : Hid (∀ u ∈ cellsOf ec l, u.oneCell' = true) := Lib.hid (ecs_one l)
    clear h hcell hg rest
    go_enter Tryz.func78, Tryz.ntmps78
    go_wp2_with (at_builtin; refine wpList_append_own _ rfl (.tmp 5) (.tmp 6) 56 rfl w.heap.size 80 i0 (.agg (ecells e0)) 17 152 Tryz.underlying56 hi0 hz0 hz1 hz2 rfl (by decide) _ _ _ rfl (World.ownsRow_made w #[] 0 (Nat.le_refl _) (Nat.zero_le _) rfl) ⟨g, 0, none⟩ l.length cap (cellsOf ec l) rfl HL.out ?c1 H1.out ?c3 ?c4 ?c5 ?_)
    case c1 => exact fun j u hj => (Lib.cell?_alloc_some _ (HC.out j u hj))
    case c3 => simp only [maxLen]; omega
    case c4 => omega
    case c5 => simp
    intro v' w1 hown hgrow hnil
    go_wp2
    go_ret
    exact ⟨v', rfl, by simpa using hown, ((Below.refl _ w).alloc (Nat.le_refl _) _).grown hgrow (by simp) (by intro k hk; simp [Value.ownBlock] at hk; omega)⟩

theorem below_box (wr : World) (o : Obj) (cs : Array Value) : Below wr.heap.size wr ((wr.alloc o).setRow wr.heap.size cs) := below_setRow (balloc wr o) (Nat.le_refl _) _
/-- What a list of entries gives whose rows are its own. -/
def ListGave (l : List Ep) (w : World) (e : Ending) (w' : World) : Prop := ∃ p c M, e = .returned (.slice p M.length c) ∧ M.map Ep.pl = l.map Ep.pl ∧ EIn w' p M ∧ Frsh w.heap.size p M ∧ Below w.heap.size w w'
/-- Behind so many rounds of List. -/
def LsRel (w w1 : World) (l : List Ep) (g cap k : Nat) (M : List Ep) (wr : World) : Prop :=
  M.length = l.length ∧ M.map Ep.pl = l.map Ep.pl ∧ wr.ownsRow w.heap.size 80 17 (.slice (some ⟨g, 0, none⟩) M.length cap) M.length (cellsOf ec M) ∧ (∀ i x, M[i]? = some x → MIn wr x.p x.l ∧ (i < k → ∀ a, x.p = some a → w1.heap.size ≤ a.block) ∧ (k ≤ i → l[i]? = some x)) ∧ Below w.heap.size w wr ∧ w1.heap.size ≤ wr.heap.size
theorem LsRel.next {w w1 wr w2 w3 : World} {l M : List Ep} {g cap k : Nat} {x y : Ep} (h : LsRel w w1 l g cap k M wr) (hl : ∀ x ∈ l, MIn w x.p x.l) (hg : w.heap.size ≤ g) (hg1 : g < w1.heap.size) (hb : Below wr.heap.size wr w2) (hx : M[k]? = some x) (hy : y.pl = x.pl) (hm : MIn w2 y.p y.l) (hf : ∀ a, y.p = some a → wr.heap.size ≤ a.block)
    (hown : w3.ownsRow w.heap.size 80 17 (.slice (some ⟨g, 0, none⟩) M.length cap) (M.set k y).length (cellsOf ec (M.set k y))) (ho : Only g w2 w3) : LsRel w w1 l g cap (k + 1) (M.set k y) w3 := by
  obtain ⟨h1, h2, h3, h4, h5, h6⟩ := h
  have hk := (List.getElem?_eq_some_iff.1 hx).1
  refine ⟨by rw [List.length_set, h1], ?_, by rw [List.length_set] at hown ⊢; exact hown, fun i z hz => ?_, Only.below (bstep h5 hb) ho hg, by have := hb.size; have := ho.size; omega⟩
  · rw [List.map_set, hy, ← h2]
    refine List.ext_getElem? fun i => ?_
    rw [List.getElem?_set]
    split
    · rename_i e
      subst e
      rw [List.getElem?_map, hx, if_pos (by simpa using hk)]
      rfl
    · rfl
  · rw [List.getElem?_set] at hz
    split at hz
    · rename_i e
      subst e
      cases hz
      refine ⟨hm.keep (by have := ho.size; omega) fun _ a ha _ => ho.other _ (by have := hf a ha; omega), fun _ a ha => by have := hf a ha; omega, fun h => by omega⟩
    · rename_i e
      obtain ⟨q1, q2, q3⟩ := h4 i z hz
      refine ⟨(q1.step hb).keep (by have := ho.size; omega) fun hne a ha _ => ho.other _ ?_, fun hi => q2 (by omega), fun hi => q3 (by omega)⟩
      by_cases hi : i < k
      · have := q2 hi a ha
        omega
      · have := (hl z (List.mem_of_getElem? (q3 (by omega)))).lt hne a ha
        omega

set_option maxHeartbeats 4000000 in
theorem list_any {w : World} {B b : Nat} {room : Int} {l : List Ep} {v : Value} (h : QuP w B b room l v) (hl : l.length ≤ 5000) (hf : ∀ x ∈ l, x.l.length ≤ 5000) :
    Calls Tryz.prog 47 #[.pointer (some ⟨b, 0, none⟩)] w (ListGave l w) := by
  have HC := Lib.hid (cloneE_any h.bg.row hl)
  have HM := Lib.hid (fun x hx => (h.sd x hx).1)
  have HF := Lib.hid hf
  have c1 := blk_cell h.bg.blk 1
  simp at c1
  clear h hf
  go_enter Tryz.func47, Tryz.ntmps47
  go_wp2_with fail
  refine HC.out.mono ?_
  rintro e w1 ⟨v1, rfl, hown, hb1⟩
  rcases hown.2 with ⟨rfl, h0⟩ | ⟨g, cap, cur, rfl, hg, hgg, -⟩
  · have e : l = [] := List.eq_nil_of_length_eq_zero h0
    subst e
    clear hown h0 hl
    go_wp2_with fail
    go_loopw [13] (fun t wr => t = .int .i64 0 ∧ wr = w1) (fun _ _ => 0)
    case atStart => exact ⟨rfl, rfl⟩
    case round =>
      obtain ⟨rfl, rfl⟩ := hrel
      go_wp2
      go_ret
      exact ⟨none, 0, [], rfl, rfl, EIn.nil _ _, ⟨fun a ha => (by cases ha), fun x hx => (by cases hx)⟩, hb1⟩
  · have hg1 := lt_of_block hgg
    have HR : Hid (LsRel w w1 l g cap 0 l w1) := Lib.hid ⟨rfl, rfl, hown, fun i x hx => ⟨(HM.out x (List.mem_of_getElem? hx)).step hb1, fun h => by omega, fun _ => hx⟩, hb1, Nat.le_refl _⟩
    clear hown hgg hb1
    go_wp2_with fail
    go_loopw [13] (fun t wr => ∃ k : Nat, k ≤ l.length ∧ t = .int .i64 k ∧ ∃ M, LsRel w w1 l g cap k M wr) (fun t _ => l.length - (intOf t).toNat)
    case atStart => exact ⟨0, Nat.zero_le _, rfl, l, HR.out⟩
    case round =>
      obtain ⟨k, hk, rfl, M, hM⟩ := hrel
      have H := Lib.hid hM
      clear hM HR
      by_cases hlt : k < l.length
      · obtain ⟨x, hx⟩ : ∃ x, M[k]? = some x := ⟨_, List.getElem?_eq_getElem (by rw [H.out.1]; exact hlt)⟩
        obtain ⟨q1, -, q3⟩ := H.out.2.2.2.1 k x hx
        have HQ := Lib.hid q1
        have hxl := HF.out x (List.mem_of_getElem? (q3 (Nat.le_refl _)))
        have hr : wr.rangeAt g (k * 17) (ec x) := by
          obtain ⟨p', c', e', hin⟩ := own_ins H.out.2.2.1
          obtain ⟨rfl, -⟩ : some (⟨g, 0, none⟩ : Addr) = p' ∧ cap = c' := by simpa using e'
          obtain ⟨g', e2, -, hr⟩ := hin k x hx
          cases e2
          exact hr
        have HR := Lib.hid hr
        have HX := Lib.hid hx
        clear q1 q3 hx hr
        have HB2 := Lib.hid (below_box wr (.cells zec 80) (ecells x))
        have HG2 : Hid (((wr.alloc (.cells zec 80)).setRow wr.heap.size (ecells x)).heap[wr.heap.size]? = some (.cells (ecells x) 80 (0, 0))) := Lib.hid (setRow_heap _ _ _ _ _ _ (heap_alloc_new wr _))
        go_wp2_with (first
          | ((with_reducible refine wpList_load_at (op := ⟨some 17, _, _, _, _, _⟩) rfl 80 (.tmp 16) rfl g (k * 17) ?lx (ecells x) _ ?lc Tryz.underlying80 ?ld ?li ?_); (case lx => rfl); (case lc => exact HR.out); (case ld => rfl); (case li => kernel_rfl))
          | ((with_reducible refine wpList_store_row (o := ⟨none, _, _, _, _, _⟩) rfl 80 (.tmp 5) (.tmp 17) rfl wr.heap.size (ecells x) ?sx ?sy 80 ?old ?sg ?si ?so ?s1 ?_); (case sx => rfl); (case sy => rfl); (case old => exact zec); (case sg => exact heap_alloc_new wr _); (case si => kernel_rfl); (case so => rfl); (case s1 => kernel_rfl); generalize (wr.alloc (.cells zec 80)).setRow wr.heap.size (ecells x) = w2 at *)
          | ((with_reducible refine wpList_load_row (o := ⟨some 20, _, _, _, _, _⟩) rfl 80 (.tmp 5) rfl wr.heap.size ?lx 80 (ecells x) (0, 0) _ ?lg Tryz.underlying80 ?ld ?li ?_); (case lx => rfl); (case lg => exact HG2.out); (case ld => rfl); (case li => kernel_rfl))
          | fail)
        refine (copied_any x _ hxl (HQ.out.step HB2.out)).mono ?_
        rintro e w3 ⟨y, rfl, hy, hm, hfr, hb3⟩
        have HN : Hid (∀ w4, w4.ownsRow w.heap.size 80 17 (.slice (some ⟨g, 0, none⟩) M.length cap) (M.set k y).length (cellsOf ec (M.set k y)) → Only g w3 w4 → LsRel w w1 l g cap (k + 1) (M.set k y) w4) := Lib.hid (fun w4 ho hon => H.out.next HM.out hg hg1 (bstep HB2.out hb3) HX.out hy hm (fun a ha => by have := hfr a ha; have := HB2.out.size; omega) ho hon)
        have HO := Lib.hid (own_block H.out.2.2.1 fun q hq => (bstep HB2.out hb3).block q (H.out.2.2.1.lt q hq).2)
        have hML : M.length = l.length := H.out.1
        have HL := Lib.hid hML
        clear hy hm hfr hb3 hML
        go_wp2_with ((with_reducible refine wpList_store_elem (op := ⟨none, _, _, _, _, _⟩) rfl 80 (.tmp 22) (.tmp 21) rfl w.heap.size 80 g k cap M x y ?sx ?sy ?so ?sz ?si ?_); (case sx => rfl); (case sy => rfl); (case so => exact HO.out); (case sz => exact HX.out); (case si => kernel_rfl); intro w4 hown4 hon4; have HN4 := Lib.hid (HN.out w4 hown4 hon4); clear hown4 hon4)
        go_roundw
        case rel => exact ⟨k + 1, by omega, by go_num, M.set k y, HN4.out⟩
        case measure => simp [intOf]; omega
      · have hkl : k = l.length := by omega
        obtain ⟨h1, h2, h3, h4, h5, h6⟩ := H.out
        have HE : Hid (ListGave l w (.returned (.slice (some ⟨g, 0, none⟩) l.length cap)) wr) := Lib.hid (by
          obtain ⟨p', c', e', hin⟩ := own_ins h3
          obtain ⟨rfl, -⟩ : some (⟨g, 0, none⟩ : Addr) = p' ∧ cap = c' := by simpa using e'
          refine ⟨some ⟨g, 0, none⟩, cap, M, by rw [h1], h2, ⟨fun i x hx => ?_, fun x hx => ?_⟩, ⟨fun a ha => by cases ha; exact hg, fun x hx a ha => ?_⟩, h5⟩
          · obtain ⟨g', e2, hg', hr⟩ := hin i x hx
            cases e2
            exact ⟨g, 0, rfl, hg', by rw [Nat.zero_add]; exact hr⟩
          · obtain ⟨i, hi, rfl⟩ := List.getElem_of_mem hx
            exact (h4 i _ (List.getElem?_eq_getElem hi)).1
          · obtain ⟨i, hi, rfl⟩ := List.getElem_of_mem hx
            have := (h4 i _ (List.getElem?_eq_getElem hi)).2.1 (by omega) a ha
            omega)
        clear h1 h2 h3 h4 h5 h6 hkl
        go_wp2_with fail
        go_ret
        exact HE.out

end Go.Proofs.YtpknfbgnclgpmaaGreatDoor.Qu

/-
  Ready, Get, Next, one contract each.
-/
namespace Go.Proofs.YtpknfbgnclgpmaaGreatDoor.Qu
open Go Go.RowKit

theorem pl_at {l : List Ep} {i : Nat} {x : Ep} (h : l[i]? = some x) : (l.map Ep.pl)[i]? = some x.pl := by rw [List.getElem?_map, h]; rfl
theorem pl_find (l : List Ep) (p : En → Bool) : (l.map Ep.pl).findIdx? p = l.findIdx? (fun y => p y.pl) := by
  rw [List.findIdx?_map]; rfl
theorem pl_len (l : List Ep) : (l.map Ep.pl).length = l.length := by simp
theorem oi_eq (o : Option Nat) (i : Nat) : (oi o == (i : Int)) = (o == some i) := by
  cases o with
  | none => simp [oi]
  | some k => rw [Bool.eq_iff_iff]; simp [oi]; omega
theorem at_cases (l : List Ep) (a : Int) : (a < 0 ∨ (l.length : Int) ≤ a) ∨ ∃ (i : Nat) (x : Ep), a = i ∧ l[i]? = some x := by
  by_cases h : 0 ≤ a ∧ a < l.length
  · right
    refine ⟨a.toNat, l[a.toNat]'(by omega), by omega, List.getElem?_eq_getElem _⟩
  · left; omega
/-- A row's block. -/
theorem Bg.off_of {T e : TypeId} {w : World} {B b g n c : Nat} {room : Int} {l : List Ep} (h : Bg T e 17 ec w B b room l (.slice (some ⟨g, 0, none⟩) n c)) : b ≠ g := fun e => h.off (by rw [e]; rfl)

/-! Ready. -/
set_option maxHeartbeats 1000000 in
theorem ready_out {w : World} {B b : Nat} {room : Int} {l : List Ep} {v : Value} (h : BgP w B b room l v) (at_ : Int) (hn : at_ < 0 ∨ (l.length : Int) ≤ at_) :
    Calls Tryz.prog 60 #[.pointer (some ⟨b, 0, none⟩), .int .i64 at_] w fun e w' => e = .returned (.bool false) ∧ Below w.heap.size w w' := by
  have HP := Lib.hid (entry_out h at_ hn)
  have hb := balloc w (.cells #[.pointer none] 162)
  clear h hn
  go_enter Tryz.func60, Tryz.ntmps60
  go_wp2_with fail
  refine HP.out.mono ?_
  rintro e w1 ⟨rfl, rfl⟩
  go_wp2
  go_ret
  exact ⟨rfl, hb⟩
set_option maxHeartbeats 1000000 in
theorem ready_at {w : World} {B b : Nat} {room : Int} {l : List Ep} {v : Value} (h : BgP w B b room l v) (i : Nat) (x : Ep) (hl : l.length ≤ 5000) (hx : l[i]? = some x) :
    Calls Tryz.prog 60 #[.pointer (some ⟨b, 0, none⟩), .int .i64 i] w fun e w' => e = .returned (.bool (!x.st && l.findIdx? (fun y => isL x.m.ln y.pl) == some i)) ∧ Below w.heap.size w w' := by
  have hi := (List.getElem?_eq_some_iff.1 hx).1
  obtain ⟨g, cap, rfl, hbg, hgl, hBg, hr, hfz, _, _⟩ := h.one hx
  have HP := Lib.hid (entry_at h i hi)
  have hb := balloc w (.cells #[.pointer (some ⟨g, i * 17, none⟩)] 162)
  have c15 : ∀ o, (w.alloc o).cell? ⟨g, i * 17 + 15, none⟩ = some (.bool x.st) := fun o => Lib.cell?_alloc_some o (hr 15 _ rfl)
  rcases Bool.eq_false_or_eq_true x.st with hs | hs
  · have HT : Hid ((!x.st && l.findIdx? (fun y => isL x.m.ln y.pl) == some i) = false) := Lib.hid (by rw [hs]; rfl)
    rw [hs] at c15
    clear h hx hr hfz hs
    go_enter Tryz.func60, Tryz.ntmps60
    go_wp2_with fail
    refine HP.out.mono ?_
    rintro e w1 ⟨rfl, rfl⟩
    go_wp2
    go_ret
    exact ⟨ret_bool HT.out.symm, hb⟩
  · have HT : Hid ((!x.st && l.findIdx? (fun y => isL x.m.ln y.pl) == some i) = (oi (l.findIdx? (fun y => isL x.m.ln y.pl)) == (i : Int))) := Lib.hid (by rw [hs, oi_eq]; rfl)
    rw [hs] at c15
    have c1 := (Lib.cell?_alloc_some (.cells #[.pointer (some ⟨g, i * 17, none⟩)] 162) (hr 1 _ rfl) : (w.alloc (.cells #[.pointer (some ⟨g, i * 17, none⟩)] 162)).cell? ⟨g, i * 17 + 1, none⟩ = some (.int .i64 x.m.ln))
    have HC := Lib.hid (placeR (fun y => isL x.m.ln y.pl) (h.below hb) ⟨w.heap.size, 0, none⟩ hl fun y _ wr hbr => rdF_any y ⟨w.heap.size, 0, none⟩ g (i * 17) x.m.ln wr ((hbr.cell (p := ⟨w.heap.size, 0, none⟩) (by simp)).trans (by simp)) ((hbr.cell (p := ⟨g, i * 17 + 1, none⟩) (Nat.lt_of_lt_of_le hgl hb.size)).trans c1))
    clear h hx hr hfz hs c1
    go_enter Tryz.func60, Tryz.ntmps60
    go_wp2_with fail
    refine HP.out.mono ?_
    rintro e w1 ⟨rfl, rfl⟩
    go_wp2_with fail
    refine HC.out.mono ?_
    rintro e w2 ⟨rfl, hb2⟩
    go_wp2
    go_ret
    exact ⟨ret_bool HT.out.symm, bbox hb2⟩
/-- Ready. -/
theorem ready_any {w : World} {B b : Nat} {room : Int} {l : List Ep} {v : Value} (h : BgP w B b room l v) (at_ : Int) (hl : l.length ≤ 5000) :
    Calls Tryz.prog 60 #[.pointer (some ⟨b, 0, none⟩), .int .i64 at_] w fun e w' => e = .returned (.bool (rdy (l.map Ep.pl) at_)) ∧ Below w.heap.size w w' := by
  rcases at_cases l at_ with ho | ⟨i, x, rfl, hx⟩
  · rw [rdy_out (by rwa [pl_len])]
    exact ready_out h at_ ho
  · rw [rdy_at (pl_at hx), pl_find]
    exact ready_at h i x hl hx

/-! Get. -/
def RetE (x : Ep) (q : Bool) (P : World → Prop) (e : Ending) (w' : World) : Prop := e = .returned (.tuple #[.agg (ecells x), .bool q]) ∧ P w'
theorem get_ret {wr : World} {x : Ep} {q : Bool} {P : World → Prop} {a : Act} {g : Nat} (hp : a.tmps.getD 4 undef = .pointer (some ⟨g, 0, none⟩)) (hq : a.tmps.getD 5 undef = .bool q) (hd : a.defers = []) (hg : wr.heap[g]? = some (.cells (ecells x) 80 (0, 0))) (hb : P wr) :
    bodyPost Tryz.prog Tryz.f98 (RetE x q P) Exit.ret a wr :=
  bodyPost_ret (v := .tuple #[.agg (ecells x), a.tmps.getD 5 undef]) (results_cell_two Tryz.results98 _ _ g 80 _ (0, 0) _ hp hg Tryz.underlying80 rfl (by kernel_rfl)) hd ⟨by rw [hq], hb⟩
set_option maxHeartbeats 1000000 in
theorem get_out {w : World} {B b : Nat} {room : Int} {l : List Ep} {v : Value} (h : BgP w B b room l v) (at_ : Int) (hn : at_ < 0 ∨ (l.length : Int) ≤ at_) :
    Calls Tryz.prog 98 #[.pointer (some ⟨b, 0, none⟩), .int .i64 at_] w (RetE e0 false (Below w.heap.size w)) := by
  have hb := balloc w (.cells zec 80)
  have HP := Lib.hid (entry_out (h.below hb) at_ hn)
  clear h hn
  go_enter Tryz.func98, Tryz.ntmps98
  go_wp2_with fail
  refine HP.out.mono ?_
  rintro e w1 ⟨rfl, rfl⟩
  go_wp2_with ((with_reducible refine wpList_store_row (o := ⟨none, _, _, _, _, _⟩) rfl 80 (.tmp 4) (.tmp 12) rfl w.heap.size zec ?sx ?sy 80 ?old ?sg ?si ?so ?s1 ?_); (case sx => rfl); (case sy => rfl); (case old => exact zec); (case sg => exact heap_alloc_new w _); (case si => kernel_rfl); (case so => rfl); (case s1 => kernel_rfl))
  exact get_ret (x := e0) rfl rfl rfl (setRow_heap _ _ _ _ _ _ (heap_alloc_new w _)) (below_setRow hb (Nat.le_refl _) _)
/-- What Get gives of an entry that is there. -/
def GetGave (x : Ep) (w : World) (e : Ending) (w' : World) : Prop := ∃ y : Ep, e = .returned (.tuple #[.agg (ecells y), .bool true]) ∧ y.pl = x.pl ∧ MIn w' y.p y.l ∧ (∀ a, y.p = some a → w.heap.size ≤ a.block) ∧ Below w.heap.size w w'
theorem get_retG {w wr : World} {x y : Ep} {a : Act} {g : Nat} (hp : a.tmps.getD 4 undef = .pointer (some ⟨g, 0, none⟩)) (hq : a.tmps.getD 5 undef = .bool true) (hd : a.defers = []) (hg : wr.heap[g]? = some (.cells (ecells y) 80 (0, 0))) (hb : y.pl = x.pl ∧ MIn wr y.p y.l ∧ (∀ a, y.p = some a → w.heap.size ≤ a.block) ∧ Below w.heap.size w wr) :
    bodyPost Tryz.prog Tryz.f98 (GetGave x w) Exit.ret a wr :=
  bodyPost_ret (v := .tuple #[.agg (ecells y), a.tmps.getD 5 undef]) (results_cell_two Tryz.results98 _ _ g 80 _ (0, 0) _ hp hg Tryz.underlying80 rfl (by kernel_rfl)) hd ⟨y, by rw [hq], hb⟩
set_option maxHeartbeats 1000000 in
theorem get_at {w : World} {B b : Nat} {room : Int} {l : List Ep} {v : Value} (h : QuP w B b room l v) (i : Nat) (x : Ep) (hx : l[i]? = some x) (hf : x.l.length ≤ 5000) :
    Calls Tryz.prog 98 #[.pointer (some ⟨b, 0, none⟩), .int .i64 i] w (GetGave x w) := by
  have hi := (List.getElem?_eq_some_iff.1 hx).1
  have hb := balloc w (.cells zec 80)
  obtain ⟨g, cap, rfl, hbg, hgl, hBg, hr, hfz, _, _⟩ := h.bg.one hx
  have HP := Lib.hid (entry_at (h.bg.below hb) i hi)
  have HR := Lib.hid (World.rangeAt_alloc hr (.cells zec 80))
  have HM := Lib.hid ((h.sd x (List.mem_of_getElem? hx)).1.step hb)
  have hbx := heap_alloc_new w (.cells zec 80)
  clear h hx hr hfz
  go_enter Tryz.func98, Tryz.ntmps98
  go_wp2_with fail
  refine HP.out.mono ?_
  rintro e w1 ⟨rfl, rfl⟩
  go_wp2_with (first
    | ((with_reducible refine wpList_load_at (op := ⟨some 15, _, _, _, _, _⟩) rfl 80 (.tmp 14) rfl g (i * 17) ?lx (ecells x) _ ?lc Tryz.underlying80 ?ld ?li ?_); (case lx => rfl); (case lc => exact HR.out); (case ld => rfl); (case li => kernel_rfl))
    | fail)
  refine (copied_any x _ hf HM.out).mono ?_
  rintro e w2 ⟨y, rfl, hy, hm, hfr, hb2⟩
  have hg4 := (hb2.block w.heap.size (by simp)).trans hbx
  go_wp2_with ((with_reducible refine wpList_store_row (o := ⟨none, _, _, _, _, _⟩) rfl 80 (.tmp 4) (.tmp 16) rfl w.heap.size (ecells y) ?sx ?sy 80 ?old ?sg ?si ?so ?s1 ?_); (case sx => rfl); (case sy => rfl); (case old => exact zec); (case sg => exact hg4); (case si => kernel_rfl); (case so => rfl); (case s1 => kernel_rfl))
  have hfr' : ∀ a, y.p = some a → w.heap.size + 1 ≤ a.block := fun a ha => by have := hfr a ha; simpa using this
  exact get_retG rfl rfl rfl (setRow_heap _ _ _ _ _ _ hg4) ⟨hy, hm.keep (by simp) fun _ a ha _ => setRow_other _ _ _ _ (by have := hfr' a ha; omega), fun a ha => by have := hfr' a ha; omega, below_setRow (bbox hb2) (Nat.le_refl _) _⟩

/-! Next. -/
def RetM (m : Msg) (q : Bool) (P : World → Prop) (e : Ending) (w' : World) : Prop := e = .returned (.tuple #[mv m, .bool q]) ∧ P w'
theorem next_ret {wr : World} {m : Msg} {q : Bool} {P : World → Prop} {a : Act} {g : Nat} (hp : a.tmps.getD 4 undef = .pointer (some ⟨g, 0, none⟩)) (hq : a.tmps.getD 5 undef = .bool q) (hd : a.defers = []) (hg : wr.heap[g]? = some (.cells (mcells m) 38 (0, 0))) (hb : P wr) :
    bodyPost Tryz.prog Tryz.f62 (RetM m q P) Exit.ret a wr :=
  bodyPost_ret (v := .tuple #[.agg (mcells m), a.tmps.getD 5 undef]) (results_cell_two Tryz.results62 _ _ g 38 _ (0, 0) _ hp hg Tryz.underlying38 rfl (by kernel_rfl)) hd ⟨by rw [hq], hb⟩
abbrev zmc : Array Value := #[.int .i64 0, .int .i64 0, .int .i64 0, .int .i64 0, .int .i64 0, .int .i64 0, .int .i64 0, .int .i64 0, .int .i64 0, .int .i64 0, .int .i64 0, .int .i64 0, .int .i64 0, .int .i64 0, .int .i64 0]
set_option maxHeartbeats 1000000 in
theorem next_out {w : World} {B b : Nat} {room : Int} {l : List Ep} {v : Value} (h : BgP w B b room l v) (at_ : Int) (hn : at_ < 0 ∨ (l.length : Int) ≤ at_) :
    Calls Tryz.prog 62 #[.pointer (some ⟨b, 0, none⟩), .int .i64 at_] w (RetM z0 false (Below w.heap.size w)) := by
  have hb := balloc w (.cells zmc 38)
  have HP := Lib.hid (entry_out (h.below hb) at_ hn)
  clear h hn
  go_enter Tryz.func62, Tryz.ntmps62
  go_wp2_with fail
  refine HP.out.mono ?_
  rintro e w1 ⟨rfl, rfl⟩
  go_wp2_with ((with_reducible refine wpList_store_row (o := ⟨none, _, _, _, _, _⟩) rfl 38 (.tmp 4) (.tmp 20) rfl w.heap.size zmc ?sx ?sy 38 ?old ?sg ?si ?so ?s1 ?_); (case sx => rfl); (case sy => rfl); (case old => exact zmc); (case sg => exact heap_alloc_new w _); (case si => kernel_rfl); (case so => rfl); (case s1 => kernel_rfl))
  exact next_ret (m := z0) rfl rfl rfl (setRow_heap _ _ _ _ _ _ (heap_alloc_new w _)) (below_setRow hb (Nat.le_refl _) _)
set_option maxHeartbeats 1000000 in
theorem next_no {w : World} {B b : Nat} {room : Int} {l : List Ep} {v : Value} (h : BgP w B b room l v) (i : Nat) (x : Ep) (hx : l[i]? = some x) (hs : x.l = []) :
    Calls Tryz.prog 62 #[.pointer (some ⟨b, 0, none⟩), .int .i64 i] w (RetM z0 false (Below w.heap.size w)) := by
  have hi := (List.getElem?_eq_some_iff.1 hx).1
  have hb := balloc w (.cells zmc 38)
  obtain ⟨g, cap, rfl, hbg, hgl, hBg, hr, hfz, _, _⟩ := h.one hx
  have HP := Lib.hid (entry_at (h.below hb) i hi)
  have c16 := (Lib.cell?_alloc_some (.cells zmc 38) (hr 16 _ rfl) : (w.alloc (.cells zmc 38)).cell? ⟨g, i * 17 + 16, none⟩ = some (.slice x.p x.l.length x.c))
  rw [hs] at c16
  simp at c16
  clear h hx hr hfz hs
  go_enter Tryz.func62, Tryz.ntmps62
  go_wp2_with fail
  refine HP.out.mono ?_
  rintro e w1 ⟨rfl, rfl⟩
  go_wp2_with ((with_reducible refine wpList_store_row (o := ⟨none, _, _, _, _, _⟩) rfl 38 (.tmp 4) (.tmp 20) rfl w.heap.size zmc ?sx ?sy 38 ?old ?sg ?si ?so ?s1 ?_); (case sx => rfl); (case sy => rfl); (case old => exact zmc); (case sg => exact heap_alloc_new w _); (case si => kernel_rfl); (case so => rfl); (case s1 => kernel_rfl))
  exact next_ret (m := z0) rfl rfl rfl (setRow_heap _ _ _ _ _ _ (heap_alloc_new w _)) (below_setRow hb (Nat.le_refl _) _)
set_option maxHeartbeats 1000000 in
theorem next_yes {w : World} {B b : Nat} {room : Int} {l : List Ep} {v : Value} (h : QuP w B b room l v) (i : Nat) (x : Ep) (hx : l[i]? = some x) (hf : x.l.length ≤ 5000) {m : Msg} {r : List Msg} (hs : x.l = m :: r) :
    Calls Tryz.prog 62 #[.pointer (some ⟨b, 0, none⟩), .int .i64 i] w (RetM m true (Below w.heap.size w)) := by
  have hi := (List.getElem?_eq_some_iff.1 hx).1
  have hb := balloc w (.cells zmc 38)
  obtain ⟨g, cap, rfl, hbg, hgl, hBg, hr, hfz, _, _⟩ := h.bg.one hx
  have HP := Lib.hid (entry_at (h.bg.below hb) i hi)
  obtain ⟨g2, o2, hp, hg2, hr2⟩ := (h.sd x (List.mem_of_getElem? hx)).1 0 m (by rw [hs]; rfl)
  have HR := Lib.hid (World.rangeAt_alloc hr2 (.cells zmc 38))
  have c16 := (Lib.cell?_alloc_some (.cells zmc 38) (hr 16 _ rfl) : (w.alloc (.cells zmc 38)).cell? ⟨g, i * 17 + 16, none⟩ = some (.slice x.p x.l.length x.c))
  rw [hp] at c16
  obtain ⟨n, hn⟩ : ∃ n, n = x.l.length := ⟨_, rfl⟩
  have hn0 : 0 < n := by rw [hn, hs]; simp
  rw [← hn] at c16 hf
  simp only [Nat.zero_mul, Nat.add_zero] at HR
  clear h hx hr hfz hs hr2 hn hp
  go_enter Tryz.func62, Tryz.ntmps62
  go_wp2_with fail
  refine HP.out.mono ?_
  rintro e w1 ⟨rfl, rfl⟩
  go_wp2_with (first
    | ((with_reducible refine wpList_load_at (op := ⟨some 26, _, _, _, _, _⟩) rfl 38 (.tmp 25) rfl g2 o2 ?lx (mcells m) _ ?lc Tryz.underlying38 ?ld ?li ?_); (case lx => rfl); (case lc => exact HR.out); (case ld => rfl); (case li => kernel_rfl))
    | ((with_reducible refine wpList_store_row (o := ⟨none, _, _, _, _, _⟩) rfl 38 (.tmp 4) (.tmp 26) rfl w.heap.size (mcells m) ?sx ?sy 38 ?old ?sg ?si ?so ?s1 ?_); (case sx => rfl); (case sy => rfl); (case old => exact zmc); (case sg => exact heap_alloc_new w _); (case si => kernel_rfl); (case so => rfl); (case s1 => kernel_rfl)))
  exact next_ret rfl rfl rfl (setRow_heap _ _ _ _ _ _ (heap_alloc_new w _)) (below_setRow hb (Nat.le_refl _) _)
/-- Next. -/
theorem next_any {w : World} {B b : Nat} {room : Int} {l : List Ep} {v : Value} (h : QuP w B b room l v) (at_ : Int) (hf : ∀ x ∈ l, x.l.length ≤ 5000) {m : Msg} {q : Bool} (e : nextP (l.map Ep.pl) at_ = (m, q)) :
    Calls Tryz.prog 62 #[.pointer (some ⟨b, 0, none⟩), .int .i64 at_] w (RetM m q (Below w.heap.size w)) := by
  rcases at_cases l at_ with ho | ⟨i, x, rfl, hx⟩
  · rw [nextP_out (by rwa [pl_len])] at e
    cases e
    exact next_out h.bg at_ ho
  · rcases hs : x.l with _ | ⟨m', r⟩
    · rw [nextP_no (pl_at hx) hs] at e
      cases e
      exact next_no h.bg i x hx hs
    · rw [nextP_yes (pl_at hx) hs] at e
      cases e
      exact next_yes h i x hx (hf x (List.mem_of_getElem? hx)) hs

end Go.Proofs.YtpknfbgnclgpmaaGreatDoor.Qu
