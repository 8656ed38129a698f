import Derived.Test.YtlfhkjjjocmpbaaGreatDoorRows
import Derived.Test.YtlfhkjjjocmpbaaGreatDoorLayBase
import Derived.WalkKit
import Derived.Lib.Hide
import Derived.WalkSpells
import Derived.WalkLawsBesides
import Derived.Deep.AppendLies
import Derived.Deep.QuietTactic
import Derived.BigQuiet
import Derived.Deep.RegionLaw
import Derived.Deep.MidRow
import Derived.Lib.SliceRun
import Derived.Laws.CopyRow
import Derived.StillTailTactics

namespace Go.Proofs.YtlfhkjjjocmpbaaGreatDoor.Mh
open Go Go.RowKit

structure Ms where
 ln : Int
 kd : Int
 nd : Int
 gt : Int
 ow : Int
 wd : Wd
 gr : Bool
 os : Bool

structure Mo where
 k : Int
 ln : Int
 n : Int
 ow : Int
 wd : Wd
def m0 : Ms := ⟨0, 0, 0, 0, 0, d0, false, false⟩
abbrev mcells (x : Ms) : Array Value := #[.int .i64 x.ln, .int .i64 x.kd, .int .i64 x.nd, .int .i64 x.gt, .int .i64 x.ow, .int .i64 x.wd.w0, .int .i64 x.wd.w1, .int .i64 x.wd.w2, .int .i64 x.wd.w3, .int .i64 x.wd.w4, .int .i64 x.wd.w5, .int .i64 x.wd.w6, .int .i64 x.wd.w7, .bool x.gr, .bool x.os]
def mc (x : Ms) : List Value := (mcells x).toList
theorem mc_len (x : Ms) : (mc x).length = 15 := rfl
def isL (line : Int) (x : Ms) : Bool := x.ln == line
def fnd (l : List Ms) (line : Int) : Option Nat := l.findIdx? (isL line)
def oi : Option Nat → Int
 | some k => k
 | none => -1

def knw (x : Ms) : Bool := x.nd != -1
def came (x : Ms) : Bool := knw x && x.gt == x.nd
def tkes (x : Ms) (acks own : Int) : Bool :=
 if (knw x || decide (acks < x.gt)) = true then false else if (own == 4) = true then x.kd == 2 else if (own == 1 || own == 2) = true then x.kd == 1 && acks == 0 else false
def newM (line kind : Int) : Ms := ⟨line, kind, -1, 0, 0, d0, false, false⟩

def openP (room : Int) (l : List Ms) (line kind : Int) : Int × List Ms :=
 if (kind != 1 && kind != 2) = true then (1, l) else if (fnd l line).isSome = true then (6, l) else if (l.length : Int) = room then (4, l) else (0, l ++ [newM line kind])
def chg (l : List Ms) (line : Int) (f : Ms → Option Ms) : Int × List Ms := match fnd l line with
 | none => (5, l)
 | some i => match (l[i]?).bind f with
  | none => (7, l)
  | some y => (0, l.set i y)
def dataY (acks own : Int) (d : Wd) (x : Ms) : Ms := { x with nd := acks, ow := own, wd := d }
def grantY (acks : Int) (x : Ms) : Ms := { x with nd := acks, ow := 4, gr := true }
def ackY (x : Ms) : Ms := { x with gt := x.gt + 1 }
def owesY (x : Ms) : Ms := { x with os := true }
def dataF (acks own : Int) (d : Wd) (x : Ms) : Option Ms := if tkes x acks own = true then some (dataY acks own d x) else none
def grantF (acks : Int) (x : Ms) : Option Ms := if tkes x acks 4 = true then some (grantY acks x) else none
def ackF (x : Ms) : Option Ms := if (x.kd == 1 || came x) = true then none else some (ackY x)
def oweP (l : List Ms) (line : Int) : (Ms × Bool) × List Ms := match fnd l line with
 | none => ((m0, false), l)
 | some i => match l[i]? with
  | none => ((m0, false), l)
  | some x => if (x.os || !came x) = true then ((m0, false), l) else ((x, true), l.set i (owesY x))
def closeP (l : List Ms) (line : Int) : Int × List Ms := match fnd l line with
 | none => (5, l)
 | some i => match l[i]? with
  | none => (5, l)
  | some x => if x.os = true then (0, l.eraseIdx i) else (7, l)
def getP (l : List Ms) (line : Int) : Ms × Bool := match fnd l line with
 | none => (m0, false)
 | some i => match l[i]? with
  | none => (m0, false)
  | some x => (x, true)
def owingP (l : List Ms) : Int × Bool := match l.findIdx? Ms.os with
 | none => (0, false)
 | some i => match l[i]? with
  | none => (0, false)
  | some x => (x.ln, true)
def doP (room : Int) (l : List Ms) (x : Mo) : (Ms × Bool × Int) × List Ms :=
 if x.k = 0 then ((m0, false, (openP room l x.ln x.n).1), (openP room l x.ln x.n).2)
 else if x.k = 1 then ((m0, false, (chg l x.ln (dataF x.n x.ow x.wd)).1), (chg l x.ln (dataF x.n x.ow x.wd)).2)
 else if x.k = 2 then ((m0, false, (chg l x.ln (grantF x.n)).1), (chg l x.ln (grantF x.n)).2)
 else if x.k = 3 then ((m0, false, (chg l x.ln ackF).1), (chg l x.ln ackF).2)
 else if x.k = 4 then (((oweP l x.ln).1.1, (oweP l x.ln).1.2, 0), (oweP l x.ln).2)
 else ((m0, false, (closeP l x.ln).1), (closeP l x.ln).2)

theorem fnd_some {l : List Ms} {line : Int} {i : Nat} (h : fnd l line = some i) : ∃ x, l[i]? = some x ∧ x.ln = line ∧ i < l.length := by
 obtain ⟨hi, hx, _⟩ := List.findIdx?_eq_some_iff_getElem.1 h
 exact ⟨_, List.getElem?_eq_getElem hi, by simpa [isL] using hx, hi⟩
theorem fnd_none {l : List Ms} {line : Int} (h : fnd l line = none) : ∀ x ∈ l, x.ln ≠ line := by
 intro x hx
 have := List.findIdx?_eq_none_iff.1 h x hx
 simpa [isL] using this
theorem fnd_at {l : List Ms} (hn : (l.map Ms.ln).Nodup) {i : Nat} {x : Ms} (hx : l[i]? = some x) : fnd l x.ln = some i := by
 obtain ⟨hi, rfl⟩ := List.getElem?_eq_some_iff.1 hx
 refine List.findIdx?_eq_some_iff_getElem.2 ⟨hi, by simp [isL], fun j hj => ?_⟩
 have := (List.nodup_iff_pairwise_ne.1 hn)
 have h2 := List.pairwise_iff_getElem.1 this j i (by simp; omega) (by simpa using hi) hj
 simpa [isL] using h2
theorem find_none {p : Ms → Bool} {l : List Ms} (h : ∀ (j : Nat) (x : Ms), l[j]? = some x → p x = false) : l.findIdx? p = none := by
 rw [List.findIdx?_eq_none_iff]
 intro x hx
 obtain ⟨j, hj, rfl⟩ := List.getElem_of_mem hx
 exact h j _ (List.getElem?_eq_getElem hj)
theorem find_some {p : Ms → Bool} {l : List Ms} {k : Nat} {x : Ms} (hk : l[k]? = some x) (hx : p x = true) (h : ∀ (j : Nat) (y : Ms), j < k → l[j]? = some y → p y = false) : l.findIdx? p = some k := by
 obtain ⟨hl, rfl⟩ := List.getElem?_eq_some_iff.1 hk
 rw [List.findIdx?_eq_some_iff_getElem]
 refine ⟨hl, hx, fun j hj => ?_⟩
 have := h j _ hj (List.getElem?_eq_getElem (by omega))
 simpa using this

structure Ok (k : Int) (x : Ms) : Prop where
 kd : x.kd = 1 ∨ x.kd = 2
 nd : -1 ≤ x.nd
 g0 : 0 ≤ x.gt
 gk : x.gt ≤ k
 gn : x.nd ≠ -1 → x.gt ≤ x.nd
 os : x.os = true → came x = true
structure Good (room k : Int) (l : List Ms) : Prop where
 r1 : 1 ≤ room
 r2 : room ≤ 8
 len : (l.length : Int) ≤ room
 uq : (l.map Ms.ln).Nodup
 each : ∀ x ∈ l, Ok k x
theorem Ok.more {k k' : Int} {x : Ms} (h : Ok k x) (hk : k ≤ k') : Ok k' x := ⟨h.kd, h.nd, h.g0, Int.le_trans h.gk hk, h.gn, h.os⟩
theorem Good.more {room k k' : Int} {l : List Ms} (h : Good room k l) (hk : k ≤ k') : Good room k' l := ⟨h.r1, h.r2, h.len, h.uq, fun x hx => (h.each x hx).more hk⟩
theorem Good.at {room k : Int} {l : List Ms} (h : Good room k l) {i : Nat} {x : Ms} (hx : l[i]? = some x) : Ok k x := h.each x (List.mem_of_getElem? hx)
theorem Good.new {room k : Int} (h1 : 1 ≤ room) (h2 : room ≤ 8) : Good room k [] := ⟨h1, h2, by simp; omega, by simp, fun x hx => by cases hx⟩
theorem Good.set {room k : Int} {l : List Ms} (h : Good room k l) {i : Nat} {x y : Ms} (hx : l[i]? = some x) (hl : y.ln = x.ln) (hy : Ok (k + 1) y) : Good room (k + 1) (l.set i y) := by
 obtain ⟨hi, rfl⟩ := List.getElem?_eq_some_iff.1 hx
 refine ⟨h.r1, h.r2, by rw [List.length_set]; exact h.len, ?_, fun z hz => ?_⟩
 ·have e : (l.set i y).map Ms.ln = l.map Ms.ln := by
   rw [List.map_set, hl]
   have : (List.map Ms.ln l).set i l[i].ln = (List.map Ms.ln l).set i ((List.map Ms.ln l)[i]'(by simpa using hi)) := by simp
   rw [this, List.set_getElem_self]
  rw [e]; exact h.uq
 ·rcases List.mem_or_eq_of_mem_set hz with h1 | rfl
  ·exact (h.each z h1).more (by omega)
  ·exact hy
theorem tkes_iff {x : Ms} {acks own : Int} (h : tkes x acks own = true) : knw x = false ∧ x.gt ≤ acks ∧ (own = 4 ∧ x.kd = 2 ∨ (own = 1 ∨ own = 2) ∧ x.kd = 1 ∧ acks = 0) := by
 unfold tkes at h
 split at h
 ·cases h
 ·rename_i h1
  simp at h1
  obtain ⟨h1, h2⟩ := h1
  refine ⟨by simpa using h1, by omega, ?_⟩
  split at h
  ·rename_i h3
   exact .inl ⟨by simpa using h3, by simpa using h⟩
  ·split at h
   ·rename_i h4
    simp at h h4
    exact .inr ⟨h4, h.1, h.2⟩
   ·cases h
theorem Ok.data {k : Int} {x : Ms} (h : Ok k x) {acks own : Int} {d : Wd} (ht : tkes x acks own = true) : Ok (k + 1) (dataY acks own d x) := by
 obtain ⟨h1, h2, h3⟩ := tkes_iff ht
 have h0 := h.g0
 have hos : x.os = false := by
  rcases Bool.eq_false_or_eq_true x.os with e | e
  ·have := h.os e
   simp [came, h1] at this
  ·exact e
 exact ⟨h.kd, by simp only [dataY]; omega, h.g0, by have := h.gk; simp only [dataY]; omega, fun _ => h2, fun e => by simp [dataY, hos] at e⟩
theorem Ok.grant {k : Int} {x : Ms} (h : Ok k x) {acks : Int} (ht : tkes x acks 4 = true) : Ok (k + 1) (grantY acks x) := by
 have := h.data (d := d0) ht
 exact ⟨this.kd, this.nd, this.g0, this.gk, this.gn, this.os⟩
theorem Ok.ack {k : Int} {x : Ms} (h : Ok k x) (ht : (x.kd == 1 || came x) = false) : Ok (k + 1) (ackY x) := by
 simp at ht
 have hos : x.os = false := by
  rcases Bool.eq_false_or_eq_true x.os with e | e
  ·have := h.os e
   simp [ht.2] at this
  ·exact e
 have h0 := h.g0
 have h1 := h.gk
 have h2 := h.gn
 have h3 := ht.2
 refine ⟨h.kd, h.nd, by simp only [ackY]; omega, by simp only [ackY]; omega, fun e => ?_, fun e => by simp [ackY, hos] at e⟩
 have h4 := h2 e
 have h5 : ¬ x.gt = x.nd := by
  intro e2
  have e' : ¬ x.nd = -1 := e
  simp [came, knw, e2, e'] at h3
 show x.gt + 1 ≤ x.nd
 omega
theorem chg_none {l : List Ms} {line : Int} (f : Ms → Option Ms) (h : fnd l line = none) : chg l line f = (5, l) := by unfold chg; rw [h]
theorem chg_no {l : List Ms} {line : Int} {f : Ms → Option Ms} {i : Nat} {x : Ms} (h : fnd l line = some i) (hx : l[i]? = some x) (hf : f x = none) : chg l line f = (7, l) := by
 unfold chg; rw [h]; simp only [hx, Option.bind, hf]
theorem chg_yes {l : List Ms} {line : Int} {f : Ms → Option Ms} {i : Nat} {x y : Ms} (h : fnd l line = some i) (hx : l[i]? = some x) (hf : f x = some y) : chg l line f = (0, l.set i y) := by
 unfold chg; rw [h]; simp only [hx, Option.bind, hf]
theorem dataF_no {acks own : Int} (d : Wd) {x : Ms} (h : tkes x acks own = false) : dataF acks own d x = none := by unfold dataF; rw [if_neg (by simp [h])]
theorem dataF_yes {acks own : Int} (d : Wd) {x : Ms} (h : tkes x acks own = true) : dataF acks own d x = some (dataY acks own d x) := by unfold dataF; rw [if_pos h]
theorem grantF_no {acks : Int} {x : Ms} (h : tkes x acks 4 = false) : grantF acks x = none := by unfold grantF; rw [if_neg (by simp [h])]
theorem grantF_yes {acks : Int} {x : Ms} (h : tkes x acks 4 = true) : grantF acks x = some (grantY acks x) := by unfold grantF; rw [if_pos h]
theorem ackF_no {x : Ms} (h : (x.kd == 1 || came x) = true) : ackF x = none := by unfold ackF; rw [if_pos h]
theorem ackF_yes {x : Ms} (h : (x.kd == 1 || came x) = false) : ackF x = some (ackY x) := by unfold ackF; rw [if_neg (by simp [h])]
theorem Good.chgd {room k : Int} {l : List Ms} (h : Good room k l) (line : Int) (f : Ms → Option Ms) (hf : ∀ x y, Ok k x → f x = some y → y.ln = x.ln ∧ Ok (k + 1) y) : Good room (k + 1) (chg l line f).2 := by
 rcases hp : fnd l line with _ | i
 ·rw [chg_none f hp]; exact h.more (by omega)
 ·obtain ⟨x, hx, _, _⟩ := fnd_some hp
  rcases hq : f x with _ | y
  ·rw [chg_no hp hx hq]; exact h.more (by omega)
  ·rw [chg_yes hp hx hq]
   obtain ⟨h1, h2⟩ := hf x y (h.at hx) hq
   exact h.set hx h1 h2
theorem Good.data {room k : Int} {l : List Ms} (h : Good room k l) (line acks own : Int) (d : Wd) : Good room (k + 1) (chg l line (dataF acks own d)).2 := h.chgd line _ fun x y hx e => by
 rcases Bool.eq_false_or_eq_true (tkes x acks own) with ht | ht
 ·rw [dataF_yes d ht] at e; cases e; exact ⟨rfl, hx.data ht⟩
 ·rw [dataF_no d ht] at e; cases e
theorem Good.grant {room k : Int} {l : List Ms} (h : Good room k l) (line acks : Int) : Good room (k + 1) (chg l line (grantF acks)).2 := h.chgd line _ fun x y hx e => by
 rcases Bool.eq_false_or_eq_true (tkes x acks 4) with ht | ht
 ·rw [grantF_yes ht] at e; cases e; exact ⟨rfl, hx.grant ht⟩
 ·rw [grantF_no ht] at e; cases e
theorem Good.ack {room k : Int} {l : List Ms} (h : Good room k l) (line : Int) : Good room (k + 1) (chg l line ackF).2 := h.chgd line _ fun x y hx e => by
 rcases Bool.eq_false_or_eq_true (x.kd == 1 || came x) with ht | ht
 ·rw [ackF_no ht] at e; cases e
 ·rw [ackF_yes ht] at e; cases e; exact ⟨rfl, hx.ack ht⟩
theorem openP_kind {room : Int} {l : List Ms} {line kind : Int} (h : (kind != 1 && kind != 2) = true) : openP room l line kind = (1, l) := by unfold openP; rw [if_pos h]
theorem openP_twice {room : Int} {l : List Ms} {line kind : Int} (h : (kind != 1 && kind != 2) = false) {i : Nat} (hp : fnd l line = some i) : openP room l line kind = (6, l) := by unfold openP; rw [if_neg (by simp [h]), hp]; rfl
theorem openP_full {room : Int} {l : List Ms} {line kind : Int} (h : (kind != 1 && kind != 2) = false) (hp : fnd l line = none) (hl : (l.length : Int) = room) : openP room l line kind = (4, l) := by unfold openP; rw [if_neg (by simp [h]), hp, if_neg (by simp), if_pos hl]
theorem openP_yes {room : Int} {l : List Ms} {line kind : Int} (h : (kind != 1 && kind != 2) = false) (hp : fnd l line = none) (hl : ¬ (l.length : Int) = room) : openP room l line kind = (0, l ++ [newM line kind]) := by unfold openP; rw [if_neg (by simp [h]), hp, if_neg (by simp), if_neg hl]
theorem Good.open {room k : Int} {l : List Ms} (h : Good room k l) (hk : 0 ≤ k) (line kind : Int) : Good room (k + 1) (openP room l line kind).2 := by
 rcases Bool.eq_false_or_eq_true (kind != 1 && kind != 2) with h1 | h1
 ·rw [openP_kind h1]; exact h.more (by omega)
 ·rcases hp : fnd l line with _ | i
  ·by_cases hl : (l.length : Int) = room
   ·rw [openP_full h1 hp hl]; exact h.more (by omega)
   ·rw [openP_yes h1 hp hl]
    have hle := h.len
    refine ⟨h.r1, h.r2, by simp; omega, ?_, fun x hx => ?_⟩
    ·rw [List.map_append, List.nodup_append]
     refine ⟨h.uq, by simp, fun a ha b hb => ?_⟩
     obtain ⟨x, hx, rfl⟩ := List.mem_map.1 ha
     have hb' : b = line := by simpa [newM] using hb
     rw [hb']
     exact fnd_none hp x hx
    ·rcases List.mem_append.1 hx with hx | hx
     ·exact (h.each x hx).more (by omega)
     ·obtain rfl : x = newM line kind := by simpa using hx
      have hk' : kind = 1 ∨ kind = 2 := by
       simp at h1
       omega
      exact ⟨hk', by simp [newM], by simp [newM], by simp only [newM]; omega, fun e => absurd rfl e, fun e => by simp [newM] at e⟩
  ·rw [openP_twice h1 hp]; exact h.more (by omega)
theorem oweP_none {l : List Ms} {line : Int} (h : fnd l line = none) : oweP l line = ((m0, false), l) := by unfold oweP; rw [h]
theorem oweP_no {l : List Ms} {line : Int} {i : Nat} {x : Ms} (h : fnd l line = some i) (hx : l[i]? = some x) (ht : (x.os || !came x) = true) : oweP l line = ((m0, false), l) := by unfold oweP; rw [h]; simp only [hx]; rw [if_pos ht]
theorem oweP_yes {l : List Ms} {line : Int} {i : Nat} {x : Ms} (h : fnd l line = some i) (hx : l[i]? = some x) (ht : (x.os || !came x) = false) : oweP l line = ((x, true), l.set i (owesY x)) := by unfold oweP; rw [h]; simp only [hx]; rw [if_neg (by simp [ht])]
theorem closeP_none {l : List Ms} {line : Int} (h : fnd l line = none) : closeP l line = (5, l) := by unfold closeP; rw [h]
theorem closeP_no {l : List Ms} {line : Int} {i : Nat} {x : Ms} (h : fnd l line = some i) (hx : l[i]? = some x) (ht : x.os = false) : closeP l line = (7, l) := by unfold closeP; rw [h]; simp only [hx]; rw [if_neg (by simp [ht])]
theorem closeP_yes {l : List Ms} {line : Int} {i : Nat} {x : Ms} (h : fnd l line = some i) (hx : l[i]? = some x) (ht : x.os = true) : closeP l line = (0, l.eraseIdx i) := by unfold closeP; rw [h]; simp only [hx]; rw [if_pos ht]
theorem getP_none {l : List Ms} {line : Int} (h : fnd l line = none) : getP l line = (m0, false) := by unfold getP; rw [h]
theorem getP_yes {l : List Ms} {line : Int} {i : Nat} {x : Ms} (h : fnd l line = some i) (hx : l[i]? = some x) : getP l line = (x, true) := by unfold getP; rw [h]; simp only [hx]
theorem owingP_none {l : List Ms} (h : l.findIdx? Ms.os = none) : owingP l = (0, false) := by unfold owingP; rw [h]
theorem owingP_yes {l : List Ms} {i : Nat} {x : Ms} (h : l.findIdx? Ms.os = some i) (hx : l[i]? = some x) : owingP l = (x.ln, true) := by unfold owingP; rw [h]; simp only [hx]
theorem Good.owe {room k : Int} {l : List Ms} (h : Good room k l) (line : Int) : Good room (k + 1) (oweP l line).2 := by
 rcases hp : fnd l line with _ | i
 ·rw [oweP_none hp]; exact h.more (by omega)
 ·obtain ⟨x, hx, _, _⟩ := fnd_some hp
  rcases Bool.eq_false_or_eq_true (x.os || !came x) with ht | ht
  ·rw [oweP_no hp hx ht]; exact h.more (by omega)
  ·rw [oweP_yes hp hx ht]
   have ho := (h.at hx).more (show k ≤ k + 1 by omega)
   simp at ht
   exact h.set hx rfl ⟨ho.kd, ho.nd, ho.g0, ho.gk, ho.gn, fun _ => ht.2⟩
theorem Good.close {room k : Int} {l : List Ms} (h : Good room k l) (line : Int) : Good room (k + 1) (closeP l line).2 := by
 rcases hp : fnd l line with _ | i
 ·rw [closeP_none hp]; exact h.more (by omega)
 ·obtain ⟨x, hx, _, _⟩ := fnd_some hp
  rcases Bool.eq_false_or_eq_true x.os with ht | ht
  ·rw [closeP_yes hp hx ht]
   have hs := List.eraseIdx_sublist l i
   have hle := h.len
   have := hs.length_le
   exact ⟨h.r1, h.r2, by show ((l.eraseIdx i).length : Int) ≤ room; omega, h.uq.sublist (hs.map _), fun z hz => (h.each z (hs.subset hz)).more (by omega)⟩
  ·rw [closeP_no hp hx ht]; exact h.more (by omega)
theorem Good.doP {room k : Int} {l : List Ms} (h : Good room k l) (hk : 0 ≤ k) (x : Mo) : Good room (k + 1) (doP room l x).2 := by
 unfold Go.Proofs.YtlfhkjjjocmpbaaGreatDoor.Mh.doP
 repeat' split
 ·exact h.open hk _ _
 ·exact h.data _ _ _ _
 ·exact h.grant _ _
 ·exact h.ack _
 ·exact h.owe _
 ·exact h.close _

end Go.Proofs.YtlfhkjjjocmpbaaGreatDoor.Mh

namespace Go.Proofs.YtlfhkjjjocmpbaaGreatDoor.Mh
open Go Go.RowKit

theorem ret_pair {a b : Int} {c d : Bool} (h : a = b) (h' : c = d) : Ending.returned (.tuple #[.int .i64 a, .bool c]) = .returned (.tuple #[.int .i64 b, .bool d]) := by rw [h, h']
theorem bbox {w w1 : World} {o : Obj} (h : Below (w.alloc o).heap.size (w.alloc o) w1) : Below w.heap.size w w1 := ((Below.refl _ _).alloc (Nat.le_refl _) _).trans (h.mono (by simp))
theorem zbox {w w1 : World} {o : Obj} (h : Below (w.alloc o).heap.size (w.alloc o) w1) : w.heap.size < w1.heap.size := by have := h.size; simp at this; omega
theorem balloc (w : World) (o : Obj) : Below w.heap.size w (w.alloc o) := (Below.refl _ _).alloc (Nat.le_refl _) _
theorem box_at {w w1 : World} {o : Obj} (h : Below (w.alloc o).heap.size (w.alloc o) w1) : w1.heap[w.heap.size]? = some o := (h.block w.heap.size (by simp)).trans (heap_alloc_new w o)
theorem ret_bool {a b : Bool} (h : a = b) : Ending.returned (.bool a) = .returned (.bool b) := by rw [h]
theorem ret_int {k : IntKind} {a b : Int} (h : a = b) : Ending.returned (.int k a) = .returned (.int k b) := by rw [h]
theorem bstep {w w1 w2 : World} (h : Below w.heap.size w w1) (h2 : Below w1.heap.size w1 w2) : Below w.heap.size w w2 := h.trans (h2.mono h.size)
theorem below_drewN {B : Nat} {w w' : World} (h : Below B w w') (n : Nat) : Below B w (w'.drewN n) := ⟨h.os, h.tape, h.output, h.size, h.block⟩
theorem below_setRow {B : Nat} {w w' : World} (h : Below B w w') {g : Nat} (hg : B ≤ g) (cs : Array Value) : Below B w (w'.setRow g cs) :=
 h.trans ⟨rfl, rfl, rfl, by simp, fun k hk => setRow_other w' g k cs (by omega)⟩
theorem blk_cell {w : World} {b : Nat} {L : Array Value} {t : TypeId} (h : w.heap[b]? = some (.cells L t (0, 0))) (i : Nat) : w.cell? ⟨b, i, none⟩ = L[i]? := by simp [World.cell?, h]
theorem blk_free {w : World} {b : Nat} {L : Array Value} {t : TypeId} (h : w.heap[b]? = some (.cells L t (0, 0))) (i : Nat) : w.frozen? ⟨b, i, none⟩ = false := by simp [World.frozen?, h]
theorem lt_of_block {w : World} {b : Nat} {o : Obj} (h : w.heap[b]? = some o) : b < w.heap.size := (Array.getElem?_eq_some_iff.1 h).1

def cellsOf {α : Type} (f : α → List Value) (l : List α) : List Value := l.flatMap f
theorem cellsOf_len {α : Type} {f : α → List Value} {sz : Nat} (hf : ∀ x, (f x).length = sz) (l : List α) : (cellsOf f l).length = l.length * sz := by
 induction l with
 | nil => simp [cellsOf]
 | cons x l ih =>
  have e : cellsOf f (x :: l) = f x ++ cellsOf f l := rfl
  rw [e, List.length_append, ih, hf, List.length_cons, Nat.add_mul, Nat.one_mul, Nat.add_comm]
theorem cellsOf_append {α : Type} (f : α → List Value) (l m : List α) : cellsOf f (l ++ m) = cellsOf f l ++ cellsOf f m := by simp [cellsOf]
theorem cellsOf_take {α : Type} {f : α → List Value} {sz : Nat} (hf : ∀ x, (f x).length = sz) (l : List α) (i : Nat) (h : i ≤ l.length) : (cellsOf f l).take (i * sz) = cellsOf f (l.take i) := by
 have e : cellsOf f l = cellsOf f (l.take i) ++ cellsOf f (l.drop i) := by rw [← cellsOf_append, List.take_append_drop]
 have hl : (cellsOf f (l.take i)).length = i * sz := by rw [cellsOf_len hf, List.length_take, Nat.min_eq_left h]
 rw [e, ← hl, List.take_left']
 rfl
theorem cellsOf_drop {α : Type} {f : α → List Value} {sz : Nat} (hf : ∀ x, (f x).length = sz) (l : List α) (i : Nat) (h : i ≤ l.length) : (cellsOf f l).drop (i * sz) = cellsOf f (l.drop i) := by
 have e : cellsOf f l = cellsOf f (l.take i) ++ cellsOf f (l.drop i) := by rw [← cellsOf_append, List.take_append_drop]
 have hl : (cellsOf f (l.take i)).length = i * sz := by rw [cellsOf_len hf, List.length_take, Nat.min_eq_left h]
 rw [e, ← hl, List.drop_left']
 rfl
theorem cellsOf_at {α : Type} {f : α → List Value} {sz : Nat} (hf : ∀ x, (f x).length = sz) (l : List α) (i j : Nat) (h : i < l.length) (hj : j < sz) : (cellsOf f l)[i * sz + j]? = (f l[i])[j]? := by
 have e : (cellsOf f l).drop (i * sz) = f l[i] ++ cellsOf f (l.drop (i + 1)) := by
  rw [cellsOf_drop hf l i (by omega), List.drop_eq_getElem_cons h]
  rfl
 rw [← List.getElem?_drop, e, List.getElem?_append_left (by rw [hf]; exact hj)]

structure Bg {α : Type} (T e : TypeId) (sz : Nat) (f : α → List Value) (w : World) (B b : Nat) (room : Int) (l : List α) (v : Value) : Prop where
 blk : w.heap[b]? = some (.cells #[.int .i64 room, v] T (0, 0))
 row : w.ownsRow B e sz v l.length (cellsOf f l)
 off : v.ownBlock ≠ some b
 big : B ≤ b

structure Turn (b : Nat) (v : Value) (w w' : World) : Prop where
 os : w'.os = w.os
 tape : w'.tape = w.tape
 output : w'.output = w.output
 size : w.heap.size ≤ w'.heap.size
 other : ∀ k, k < w.heap.size → k ≠ b → v.ownBlock ≠ some k → w'.heap[k]? = w.heap[k]?

def Fresh (w : World) (v v' : Value) : Prop := ∀ k, v'.ownBlock = some k → v.ownBlock = some k ∨ w.heap.size ≤ k
theorem Fresh.refl (w : World) (v : Value) : Fresh w v v := fun _ h => .inl h

theorem Turn.of_below {b : Nat} {v : Value} {w w' : World} (h : Below w.heap.size w w') : Turn b v w w' := ⟨h.os, h.tape, h.output, h.size, fun k hk _ _ => h.block k hk⟩
theorem Turn.trans {b : Nat} {v v' : Value} {w w1 w2 : World} (h : Turn b v w w1) (k : Turn b v' w1 w2) (hf : Fresh w v v') : Turn b v w w2 :=
   ⟨k.os.trans h.os, k.tape.trans h.tape, k.output.trans h.output, Nat.le_trans h.size k.size, fun i hi h1 h2 => (k.other i (Nat.lt_of_lt_of_le hi h.size) h1 (fun e => by rcases hf i e with e | e; exact h2 e; omega)).trans (h.other i hi h1 h2)⟩
theorem Turn.below {α : Type} {T e : TypeId} {sz : Nat} {f : α → List Value} {w w' : World} {B b : Nat} {room : Int} {l : List α} {v : Value} (h : Turn b v w w') (hb : Bg T e sz f w B b room l v) (hB : B ≤ w.heap.size) : Below B w w' :=
   ⟨h.os, h.tape, h.output, h.size, fun k hk => h.other k (by omega) (by have := hb.big; omega) (fun e => by have := hb.row.lt k e; omega)⟩

theorem Bg.lt {α : Type} {T e : TypeId} {sz : Nat} {f : α → List Value} {w : World} {B b : Nat} {room : Int} {l : List α} {v : Value} (h : Bg T e sz f w B b room l v) : b < w.heap.size := lt_of_block h.blk
theorem own_block {w w' : World} {base e sz n : Nat} {v : Value} {xs : List Value} (h : w.ownsRow base e sz v n xs) (hb : ∀ k, v.ownBlock = some k → w'.heap[k]? = w.heap[k]?) : w'.ownsRow base e sz v n xs := by
 refine ⟨h.1, ?_⟩
 rcases h.2 with hn | ⟨g, cap, cur, rfl, hb', hgg, rest⟩
 ·exact .inl hn
 ·exact .inr ⟨g, cap, cur, rfl, hb', (hb g rfl).trans hgg, rest⟩
theorem own_base {w : World} {base base' e sz n : Nat} {v : Value} {xs : List Value} (h : w.ownsRow base e sz v n xs) (hb : ∀ k, v.ownBlock = some k → base' ≤ k) : w.ownsRow base' e sz v n xs := by
 refine ⟨h.1, ?_⟩
 rcases h.2 with hn | ⟨g, cap, cur, rfl, hb', rest⟩
 ·exact .inl hn
 ·exact .inr ⟨g, cap, cur, rfl, hb g rfl, rest⟩

theorem Bg.keep {α : Type} {T e : TypeId} {sz : Nat} {f : α → List Value} {w w' : World} {B b : Nat} {room : Int} {l : List α} {v : Value} (h : Bg T e sz f w B b room l v) (h1 : w'.heap[b]? = w.heap[b]?) (h2 : ∀ k, v.ownBlock = some k → w'.heap[k]? = w.heap[k]?) : Bg T e sz f w' B b room l v :=
   ⟨h1.trans h.blk, own_block h.row h2, h.off, h.big⟩
theorem Bg.below {α : Type} {T e : TypeId} {sz : Nat} {f : α → List Value} {w w' : World} {B b : Nat} {room : Int} {l : List α} {v : Value} (h : Bg T e sz f w B b room l v) (hb : Below w.heap.size w w') : Bg T e sz f w' B b room l v :=
 h.keep (hb.block b h.lt) fun k hk => hb.block k (h.row.lt k hk).2
theorem Bg.form {α : Type} {T e : TypeId} {sz : Nat} {f : α → List Value} {w : World} {B b : Nat} {room : Int} {l : List α} {v : Value} (h : Bg T e sz f w B b room l v) : ∃ p cap, v = .slice p l.length cap ∧ (0 < l.length → ∃ g, p = some ⟨g, 0, none⟩) := by
 rcases h.row.2 with ⟨e, h0⟩ | ⟨g, cap, cur, e, _⟩
 ·exact ⟨none, 0, by rw [e, h0], fun h => by omega⟩
 ·exact ⟨_, cap, e, fun _ => ⟨g, rfl⟩⟩

theorem Bg.new {α : Type} {T e : TypeId} {sz : Nat} {f : α → List Value} {w : World} {B : Nat} {room : Int} (hB : B ≤ w.heap.size) : Bg T e sz f (w.alloc (.cells #[.int .i64 room, .slice none 0 0] T)) B w.heap.size room [] (.slice none 0 0) :=
   ⟨heap_alloc_new w _, World.ownsRow_nil _ _ _ _, by simp [Value.ownBlock], hB⟩

def PutGave {α : Type} (T e : TypeId) (sz : Nat) (f : α → List Value) (w : World) (B b : Nat) (room : Int) (l : List α) (v : Value) (w' : World) : Prop := ∃ v', Bg T e sz f w' B b room l v' ∧ Turn b v w w' ∧ Fresh w v v'
theorem put_blk {α : Type} {T e : TypeId} {sz : Nat} {f : α → List Value} {w w1 w2 : World} {B b : Nat} {room : Int} {l : List α} {v : Value} (h : Bg T e sz f w B b room l v) (hw : Below w.heap.size w w1) (hgrow : w1.grownBy w2 v.ownBlock) : w2.heap[b]? = some (.cells #[.int .i64 room, v] T (0, 0)) :=
 (hgrow.block b (Nat.lt_of_lt_of_le h.lt hw.size) (fun e => h.off e.symm)).trans ((hw.block b h.lt).trans h.blk)
theorem put_gave {α : Type} {T e : TypeId} {sz : Nat} {f : α → List Value} {w w1 w2 : World} {B b : Nat} {room : Int} {l : List α} {x : α} {v : Value} {g cap : Nat} (h : Bg T e sz f w B b room l v) (hw : Below w.heap.size w w1)
  (hown : w2.ownsRow B e sz (.slice (some ⟨g, 0, none⟩) (l.length + 1) cap) (l.length + 1) (cellsOf f l ++ f x)) (hgrow : w1.grownBy w2 v.ownBlock) (hat : v.ownBlock = some g ∨ w.heap.size ≤ g) :
  PutGave T e sz f w B b room (l ++ [x]) v (w2.setCell ⟨b, 1, none⟩ (.slice (some ⟨g, 0, none⟩) (l.length + 1) cap)) := by
 have hbl := h.lt
 have hb2 : w2.heap[b]? = some (.cells #[.int .i64 room, v] T (0, 0)) := (hgrow.block b (Nat.lt_of_lt_of_le hbl hw.size) (fun e => h.off e.symm)).trans ((hw.block b hbl).trans h.blk)
 have hgb : g ≠ b := by
  rcases hat with hat | hat
  ·exact fun e => h.off (e ▸ hat)
  ·omega
 refine ⟨.slice (some ⟨g, 0, none⟩) (l.length + 1) cap, ⟨?_, ?_, ?_, h.big⟩, ?_, ?_⟩
 ·rw [heap_setCell_same w2 b 1 _ _ _ hb2]
  rfl
 ·have := own_block (w' := w2.setCell ⟨b, 1, none⟩ (.slice (some ⟨g, 0, none⟩) (l.length + 1) cap)) hown fun k hk => by
   simp only [Value.ownBlock, Option.some.injEq] at hk
   exact heap_setCell_other _ _ _ _ (by simp only; omega)
  rw [List.length_append, List.length_singleton, cellsOf_append]
  simpa [cellsOf] using this
 ·simpa [Value.ownBlock] using hgb
 ·refine ⟨?_, ?_, ?_, ?_, fun k hk h1 h2 => ?_⟩
  ·exact hgrow.os.trans hw.os
  ·exact hgrow.tape.trans hw.tape
  ·exact hgrow.output.trans hw.output
  ·have h3 := hw.size; have h4 := hgrow.size; simp [World.setCell]; omega
  ·exact (heap_setCell_other _ _ _ _ h1).trans ((hgrow.block k (Nat.lt_of_lt_of_le hk hw.size) (fun e => h2 e.symm)).trans (hw.block k hk))
 ·intro k hk
  simp only [Value.ownBlock, Option.some.injEq] at hk
  rcases hat with hat | hat
  ·exact .inl (hk ▸ hat)
  ·exact .inr (hk ▸ hat)

structure Only (b : Nat) (w w' : World) : Prop where
 os : w'.os = w.os
 tape : w'.tape = w.tape
 output : w'.output = w.output
 size : w'.heap.size = w.heap.size
 other : ∀ c, c ≠ b → w'.heap[c]? = w.heap[c]?

def RowGave {α : Type} (e : TypeId) (sz : Nat) (f : α → List Value) (l : List α) (w : World) (x : Ending) (w' : World) : Prop := ∃ v, x = .returned v ∧ w'.ownsRow w.heap.size e sz v l.length (cellsOf f l) ∧ Below w.heap.size w w'

theorem results_cell_two {P : Program} {fn : Func} {p q : Tmp} {ty : TypeId} (h : fn.results = #[.cell p ty, .tmp q]) (tmps : Array Value) (w : World) (g : Nat) (t : TypeId) (cs : Array Value) (fr : Nat × Nat) (d : TypeDesc)
  (hp : tmps.getD p undef = .pointer (some ⟨g, 0, none⟩)) (hg : w.heap[g]? = some (.cells cs t fr))
  (hu : P.underlying ty = some d) (hd : (match d with | .struct _ | .array _ _ => true | _ => false) = true) (hi : (P.info? ty).map (·.size) = some cs.size) :
  (results fn tmps).run P w = .ok (.tuple #[.agg cs, tmps.getD q undef]) w := by
 have hp' : tmps[p]?.getD undef = .pointer (some ⟨g, 0, none⟩) := by simpa using hp
 simp [results, h, hp', asAddr, run_loadVar_row w g t ty cs fr d hg hu hd hi]

theorem new_at1 (w : World) (A B : Obj) : ((w.alloc A).alloc B).heap[w.heap.size]? = some A := by
 rw [Below.heap_alloc _ _ _ (by simp)]
 exact heap_alloc_new w A

theorem mc_one (x : Ms) : ∀ u ∈ mc x, u.oneCell' = true := by
 intro u hu
 simp [mc] at hu
 rcases hu with rfl | rfl | rfl | rfl | rfl | rfl | rfl | rfl | rfl | rfl | rfl | rfl | rfl | rfl | rfl <;> rfl
theorem mcs_one (l : List Ms) : ∀ u ∈ cellsOf mc l, u.oneCell' = true := by
 intro u hu
 obtain ⟨m, _, hm⟩ := List.mem_flatMap.1 hu
 exact mc_one m u hm
theorem heap_drew (w : World) : w.drew.heap = w.heap := rfl

def MsIn (w : World) (p : Option Addr) (l : List Ms) : Prop := ∀ i x, l[i]? = some x → ∃ g, p = some ⟨g, 0, none⟩ ∧ g < w.heap.size ∧ w.rangeAt g (i * 15) (mc x)
theorem MsIn.step {w w' : World} {p : Option Addr} {l : List Ms} (h : MsIn w p l) (hb : Below w.heap.size w w') : MsIn w' p l := fun i x hx => by
 obtain ⟨g, e, hg, hr⟩ := h i x hx
 exact ⟨g, e, Nat.lt_of_lt_of_le hg hb.size, fun j v hv => (hb.cell (p := ⟨g, i * 15 + j, none⟩) hg).trans (hr j v hv)⟩
theorem own_ins {w : World} {B e : Nat} {v : Value} {l : List Ms} (h : w.ownsRow B e 15 v l.length (cellsOf mc l)) : ∃ p cap, v = .slice p l.length cap ∧ MsIn w p l := by
 rcases h.2 with ⟨rfl, h0⟩ | ⟨g, cap, cur, rfl, hb, hg, rest⟩
 ·exact ⟨none, 0, by rw [h0], fun i x hx => by have := (List.getElem?_eq_some_iff.1 hx).1; omega⟩
 ·refine ⟨_, cap, rfl, fun i x hx => ⟨g, rfl, lt_of_block hg, fun j u hu => ?_⟩⟩
  obtain ⟨hi, rfl⟩ := List.getElem?_eq_some_iff.1 hx
  have hj : j < 15 := by
   have := (List.getElem?_eq_some_iff.1 hu).1
   rwa [mc_len] at this
  have := h.cells (g := g) rfl (i * 15 + j) u (by rw [cellsOf_at mc_len l i j hi hj]; exact hu)
  rwa [Addr.add_lit, Nat.zero_add] at this
theorem Bg.ins {T e : TypeId} {w : World} {B b : Nat} {room : Int} {l : List Ms} {v : Value} (h : Bg T e 15 mc w B b room l v) : ∃ p cap, v = .slice p l.length cap ∧ MsIn w p l := own_ins h.row

theorem Bg.one {T e : TypeId} {w : World} {B b : Nat} {room : Int} {l : List Ms} {v : Value} (h : Bg T e 15 mc w B b room l v) {i : Nat} {x : Ms} (hx : l[i]? = some x) :
  ∃ g cap, v = .slice (some ⟨g, 0, none⟩) l.length cap ∧ b ≠ g ∧ g < w.heap.size ∧ B ≤ g ∧ w.rangeAt g (i * 15) (mc x) ∧ (∀ o, w.frozen? ⟨g, o, none⟩ = false) ∧ l.length ≤ cap ∧ cap ≤ maxLen := by
 have hi := (List.getElem?_eq_some_iff.1 hx).1
 obtain ⟨p, cap, e0, hin⟩ := h.ins
 obtain ⟨g, rfl, hg, hr⟩ := hin i x hx
 subst e0
 rcases h.row.2 with ⟨e0, h0⟩ | ⟨g', cap', cur, e0, hB, hgg, h1, h2, _⟩
 ·cases e0
 ·obtain ⟨rfl, rfl⟩ : g = g' ∧ cap = cap' := by simpa using e0
  exact ⟨g, cap, rfl, fun e => h.off (by rw [e]; rfl), hg, hB, hr, fun o => blk_free hgg o, h1, h2⟩

theorem heap_setCells_row (g : Nat) (t : TypeId) : ∀ (vs : List Value) (o : Nat) (cur : Array Value) (w : World), w.heap[g]? = some (.cells cur t (0, 0)) → o + vs.length ≤ cur.size →
  (w.setCells g o vs).heap[g]? = some (.cells (cur.toList.take o ++ vs ++ cur.toList.drop (o + vs.length)).toArray t (0, 0))
 | [], o, cur, w, hg, _ => by simpa [World.setCells] using hg
 | v :: r, o, cur, w, hg, hl => by
  have ih := heap_setCells_row g t r (o + 1) (cur.setIfInBounds o v) (w.setCell ⟨g, o, none⟩ v) (by rw [heap_setCell_same w g o _ _ _ hg]) (by simp at hl ⊢; omega)
  rw [World.setCells, ih]
  congr 3
  have e := list_seg_step cur.toList o v r (by simp at hl ⊢; omega)
  simpa [Array.toList_setIfInBounds, Nat.add_assoc, Nat.add_comm] using e
theorem heap_setCells_other (b : Nat) : ∀ (vs : List Value) (o : Nat) (w : World) (k : Nat), k ≠ b → (w.setCells b o vs).heap[k]? = w.heap[k]?
 | [], _, _, _, _ => rfl
 | v :: r, o, w, k, h => by rw [World.setCells, heap_setCells_other b r (o + 1) _ k h, heap_setCell_other _ _ _ _ h]
theorem setCells_rest (b : Nat) : ∀ (vs : List Value) (o : Nat) (w : World), (w.setCells b o vs).os = w.os ∧ (w.setCells b o vs).tape = w.tape ∧ (w.setCells b o vs).output = w.output ∧ (w.setCells b o vs).heap.size = w.heap.size
 | [], _, _ => ⟨rfl, rfl, rfl, rfl⟩
 | v :: r, o, w => by
  obtain ⟨h1, h2, h3, h4⟩ := setCells_rest b r (o + 1) (w.setCell ⟨b, o, none⟩ v)
  rw [World.setCells]
  exact ⟨h1, h2, h3, by rw [h4]; simp⟩

theorem cells_set {l : List Ms} {i : Nat} {x y : Ms} (hx : l[i]? = some x) (j : Nat) (vs : List Value) (hj : j + vs.length ≤ 15) (hin : ∀ m, m < vs.length → (mc y)[j + m]? = vs[m]?) (hout : ∀ m, m < 15 → m < j ∨ j + vs.length ≤ m → (mc y)[m]? = (mc x)[m]?) :
  (cellsOf mc l).take (i * 15 + j) ++ vs ++ (cellsOf mc l).drop (i * 15 + j + vs.length) = cellsOf mc (l.set i y) := by
 obtain ⟨hi, rfl⟩ := List.getElem?_eq_some_iff.1 hx
 have hL := cellsOf_len mc_len l
 have hsplit : cellsOf mc l = cellsOf mc (l.take i) ++ (mc l[i] ++ cellsOf mc (l.drop (i + 1))) := by
  conv => lhs; rw [← List.take_append_drop i l, cellsOf_append, List.drop_eq_getElem_cons hi]
  rfl
 have hset : cellsOf mc (l.set i y) = cellsOf mc (l.take i) ++ (mc y ++ cellsOf mc (l.drop (i + 1))) := by
  rw [List.set_eq_take_append_cons_drop, if_pos hi, cellsOf_append]
  rfl
 have hA : (cellsOf mc (l.take i)).length = i * 15 := by rw [cellsOf_len mc_len, List.length_take, Nat.min_eq_left (by omega)]
 have hy : mc y = (mc l[i]).take j ++ vs ++ (mc l[i]).drop (j + vs.length) := by
  refine List.ext_getElem? fun m => ?_
  by_cases h15 : m < 15
  ·by_cases h1 : m < j
   ·rw [hout m h15 (.inl h1), List.append_assoc, List.getElem?_append_left (by rw [List.length_take, mc_len]; omega), List.getElem?_take, if_pos h1]
   ·by_cases h2 : m < j + vs.length
    ·rw [List.append_assoc, List.getElem?_append_right (by rw [List.length_take, mc_len]; omega), List.getElem?_append_left (by rw [List.length_take, mc_len]; omega)]
     have := hin (m - j) (by omega)
     rw [show j + (m - j) = m by omega] at this
     rw [this, List.length_take, mc_len, Nat.min_eq_left (by omega)]
    ·rw [hout m h15 (.inr (by omega)), List.getElem?_append_right (by rw [List.length_append, List.length_take, mc_len]; omega), List.getElem?_drop, List.length_append, List.length_take, mc_len, Nat.min_eq_left (by omega)]
     congr 1; omega
  ·rw [List.getElem?_eq_none (by rw [mc_len]; omega), List.getElem?_eq_none (by rw [List.length_append, List.length_append, List.length_take, List.length_drop, mc_len]; omega)]
 rw [hset, hy, hsplit]
 have e1 : (cellsOf mc (l.take i) ++ (mc l[i] ++ cellsOf mc (l.drop (i + 1)))).take (i * 15 + j) = cellsOf mc (l.take i) ++ (mc l[i]).take j := by
  rw [← hA, List.take_length_add_append, List.take_append_of_le_length (by rw [mc_len]; omega)]
 have e2 : (cellsOf mc (l.take i) ++ (mc l[i] ++ cellsOf mc (l.drop (i + 1)))).drop (i * 15 + j + vs.length) = (mc l[i]).drop (j + vs.length) ++ cellsOf mc (l.drop (i + 1)) := by
  rw [← hA, Nat.add_assoc, List.drop_length_add_append, List.drop_append_of_le_length (by rw [mc_len]; omega)]
 rw [e1, e2]
 simp only [List.append_assoc]

theorem Bg.store {T e : TypeId} {w : World} {B b : Nat} {room : Int} {l : List Ms} {g cap : Nat} (h : Bg T e 15 mc w B b room l (.slice (some ⟨g, 0, none⟩) l.length cap)) {i : Nat} {x : Ms} (hx : l[i]? = some x) (y : Ms) (j : Nat) (vs : List Value) (hj : j + vs.length ≤ 15)
  (hin : ∀ m, m < vs.length → (mc y)[j + m]? = vs[m]?) (hout : ∀ m, m < 15 → m < j ∨ j + vs.length ≤ m → (mc y)[m]? = (mc x)[m]?) : Bg T e 15 mc (w.setCells g (i * 15 + j) vs) B b room (l.set i y) (.slice (some ⟨g, 0, none⟩) l.length cap) := by
 have hi := (List.getElem?_eq_some_iff.1 hx).1
 have hgb : b ≠ g := fun e => h.off (by rw [e]; rfl)
 obtain ⟨hlen, hh⟩ := h.row
 rcases hh with ⟨e0, h0⟩ | ⟨g', cap', cur, e0, hB, hgg, h1, h2, h3, h4⟩
 ·cases e0
 ·obtain ⟨rfl, rfl⟩ : g = g' ∧ cap = cap' := by simpa using e0
  have hfit : l.length * 15 ≤ cap * 15 := Nat.mul_le_mul_right _ h1
  have hi15 : (i + 1) * 15 ≤ l.length * 15 := Nat.mul_le_mul_right _ hi
  rw [Nat.add_mul] at hi15
  have hst := heap_setCells_row g e vs (i * 15 + j) cur w hgg (by omega)
  refine ⟨(heap_setCells_other g vs _ w b hgb).trans h.blk, ?_, h.off, h.big⟩
  rw [List.length_set]
  refine ⟨by rw [cellsOf_len mc_len, List.length_set], .inr ⟨g, cap, _, rfl, hB, hst, h1, h2, ?_, ?_⟩⟩
  ·simp only [List.size_toArray, List.length_append, List.length_take, List.length_drop, Array.length_toList]
   omega
  ·rw [List.toList_toArray]
   have e5 : cur.toList.drop (i * 15 + j + vs.length) = (cellsOf mc l).drop (i * 15 + j + vs.length) ++ cur.toList.drop (l.length * 15) := by
    have : cur.toList = cellsOf mc l ++ cur.toList.drop (l.length * 15) := by rw [← h4, List.take_append_drop]
    conv => lhs; rw [this]
    rw [List.drop_append_of_le_length (by rw [hlen]; omega)]
   have e6 : cur.toList.take (i * 15 + j) = (cellsOf mc l).take (i * 15 + j) := by
    rw [← h4, List.take_take, Nat.min_eq_left (by omega)]
   rw [e5, e6, ← List.append_assoc, cells_set hx j vs hj hin hout]
   have : (cellsOf mc (l.set i y)).length = l.length * 15 := by rw [cellsOf_len mc_len, List.length_set]
   rw [← this, List.take_left']
   rfl
theorem turn_setCells {b g n cap : Nat} (o : Nat) (vs : List Value) (w : World) : Turn b (.slice (some ⟨g, 0, none⟩) n cap) w (w.setCells g o vs) := by
 obtain ⟨h1, h2, h3, h4⟩ := setCells_rest g vs o w
 exact ⟨h1, h2, h3, by omega, fun k _ _ hne => heap_setCells_other g vs o w k (fun e => hne (by rw [e]; rfl))⟩
theorem gave_same {T e : TypeId} {w w' : World} {B b : Nat} {room : Int} {l : List Ms} {v : Value} (h : Bg T e 15 mc w B b room l v) (hb : Below w.heap.size w w') : PutGave T e 15 mc w B b room l v w' := ⟨v, h.below hb, .of_below hb, Fresh.refl _ _⟩
theorem gave_store {T e : TypeId} {w w1 : World} {B b : Nat} {room : Int} {l : List Ms} {g cap : Nat} (h : Bg T e 15 mc w B b room l (.slice (some ⟨g, 0, none⟩) l.length cap)) (hb : Below w.heap.size w w1) {i : Nat} {x : Ms} (hx : l[i]? = some x) (y : Ms) (j : Nat) (vs : List Value) (hj : j + vs.length ≤ 15)
  (hin : ∀ m, m < vs.length → (mc y)[j + m]? = vs[m]?) (hout : ∀ m, m < 15 → m < j ∨ j + vs.length ≤ m → (mc y)[m]? = (mc x)[m]?) : PutGave T e 15 mc w B b room (l.set i y) (.slice (some ⟨g, 0, none⟩) l.length cap) (w1.setCells g (i * 15 + j) vs) := by
 refine ⟨_, (h.below hb).store hx y j vs hj hin hout, ?_, Fresh.refl _ _⟩
 have ht := turn_setCells (b := b) (g := g) (n := l.length) (cap := cap) (i * 15 + j) vs w1
 exact (Turn.of_below hb).trans ht (Fresh.refl _ _)

abbrev BgP := @Bg Ms 151 117 15 mc
abbrev BgD := @Bg Ms 62 75 15 mc
theorem A34 : (Tryz.prog.info? 117).map (fun i => (i.zero, i.size, i.bytes)) = some (some (.agg (mcells m0)), 15, 112) := by kernel_rfl
theorem A39 : (Tryz.prog.info? 75).map (fun i => (i.zero, i.size, i.bytes)) = some (some (.agg (mcells m0)), 15, 112) := by kernel_rfl

end Go.Proofs.YtlfhkjjjocmpbaaGreatDoor.Mh

namespace Go.Proofs.YtlfhkjjjocmpbaaGreatDoor.Mh
open Go Go.RowKit

theorem known_any (x : Ms) (w : World) :
  Calls Tryz.prog 167 #[.agg (mcells x)] w fun e w' => e = .returned (.bool (knw x)) ∧ Below w.heap.size w w' := by
 have hb := balloc w (.cells (mcells x) 117)
 have HT : Hid (knw x = (x.nd != -1)) := Lib.hid rfl
 go_enter Tryz.func167, Tryz.ntmps167
 go_wp2
 go_ret
 exact ⟨ret_bool HT.out.symm, hb⟩

set_option maxHeartbeats 1000000 in
theorem came_any (x : Ms) (w : World) :
  Calls Tryz.prog 163 #[.agg (mcells x)] w fun e w' => e = .returned (.bool (came x)) ∧ Below w.heap.size w w' := by
 rcases Bool.eq_false_or_eq_true (knw x) with h | h
 ·have HT : Hid (came x = (x.gt == x.nd)) := Lib.hid (by simp [came, h])
  go_enter Tryz.func163, Tryz.ntmps163
  go_wp2_with (first
   | ((with_reducible refine wpList_load_row (o := ⟨some 3, _, _, _, _, _⟩) rfl 117 (.tmp 1) rfl w.heap.size ?lx 117 (mcells x) (0, 0) _ ?lg Tryz.underlying117 ?ld ?li ?_); (case lx => rfl); (case lg => exact heap_alloc_new w _); (case ld => rfl); (case li => kernel_rfl))
   | (go_at_call 167; refine (known_any x _).mono ?_; rintro e w1 ⟨rfl, hb1⟩; rw [h]; have hc := blk_cell (box_at hb1)))
  go_ret
  exact ⟨ret_bool HT.out.symm, bbox hb1⟩
 ·have HT : Hid (came x = false) := Lib.hid (by simp [came, h])
  go_enter Tryz.func163, Tryz.ntmps163
  go_wp2_with (first
   | ((with_reducible refine wpList_load_row (o := ⟨some 3, _, _, _, _, _⟩) rfl 117 (.tmp 1) rfl w.heap.size ?lx 117 (mcells x) (0, 0) _ ?lg Tryz.underlying117 ?ld ?li ?_); (case lx => rfl); (case lg => exact heap_alloc_new w _); (case ld => rfl); (case li => kernel_rfl))
   | (go_at_call 167; refine (known_any x _).mono ?_; rintro e w1 ⟨rfl, hb1⟩; rw [h]))
  go_ret
  exact ⟨ret_bool HT.out.symm, bbox hb1⟩

set_option maxHeartbeats 2000000 in
theorem takes_any (x : Ms) (acks own : Int) (w : World) :
  Calls Tryz.prog 160 #[.agg (mcells x), .int .i64 acks, .int .i64 own] w fun e w' => e = .returned (.bool (tkes x acks own)) ∧ Below w.heap.size w w' := by
 rcases Bool.eq_false_or_eq_true (knw x) with h | h
 ·have HT : Hid (tkes x acks own = false) := Lib.hid (by simp [tkes, h])
  go_enter Tryz.func160, Tryz.ntmps160
  go_wp2_with (first
   | ((with_reducible refine wpList_load_row (o := ⟨some 7, _, _, _, _, _⟩) rfl 117 (.tmp 3) rfl w.heap.size ?lx 117 (mcells x) (0, 0) _ ?lg Tryz.underlying117 ?ld ?li ?_); (case lx => rfl); (case lg => exact heap_alloc_new w _); (case ld => rfl); (case li => kernel_rfl))
   | (go_at_call 167; refine (known_any x _).mono ?_; rintro e w1 ⟨rfl, hb1⟩; rw [h]))
  go_ret
  exact ⟨ret_bool HT.out.symm, bbox hb1⟩
 ·by_cases ha : acks < x.gt
  ·have HT : Hid (tkes x acks own = false) := Lib.hid (by simp [tkes, ha])
   go_enter Tryz.func160, Tryz.ntmps160
   go_wp2_with (first
    | ((with_reducible refine wpList_load_row (o := ⟨some 7, _, _, _, _, _⟩) rfl 117 (.tmp 3) rfl w.heap.size ?lx 117 (mcells x) (0, 0) _ ?lg Tryz.underlying117 ?ld ?li ?_); (case lx => rfl); (case lg => exact heap_alloc_new w _); (case ld => rfl); (case li => kernel_rfl))
    | (go_at_call 167; refine (known_any x _).mono ?_; rintro e w1 ⟨rfl, hb1⟩; rw [h]; have hc := blk_cell (box_at hb1)))
   go_ret
   exact ⟨ret_bool HT.out.symm, bbox hb1⟩
  ·have ha' : decide (acks < x.gt) = false := by simpa using ha
   have HG : tkes x acks own = if (own == 4) = true then x.kd == 2 else if (own == 1 || own == 2) = true then x.kd == 1 && acks == 0 else false := by
    unfold tkes
    rw [if_neg (by simp [h]; omega)]
   clear ha
   rcases Bool.eq_false_or_eq_true (own == 4) with h4 | h4
   ·have HT : Hid (tkes x acks own = (x.kd == 2)) := Lib.hid (by rw [HG, if_pos h4])
    clear HG
    go_enter Tryz.func160, Tryz.ntmps160
    go_wp2_with (first
     | ((with_reducible refine wpList_load_row (o := ⟨some 7, _, _, _, _, _⟩) rfl 117 (.tmp 3) rfl w.heap.size ?lx 117 (mcells x) (0, 0) _ ?lg Tryz.underlying117 ?ld ?li ?_); (case lx => rfl); (case lg => exact heap_alloc_new w _); (case ld => rfl); (case li => kernel_rfl))
     | (go_at_call 167; refine (known_any x _).mono ?_; rintro e w1 ⟨rfl, hb1⟩; rw [h]; have hc := blk_cell (box_at hb1)))
    go_ret
    exact ⟨ret_bool HT.out.symm, bbox hb1⟩
   ·rcases Bool.eq_false_or_eq_true (own == 1) with h1 | h1
    ·rcases Bool.eq_false_or_eq_true (x.kd == 1) with hk | hk
     ·have HT : Hid (tkes x acks own = (acks == 0)) := Lib.hid (by rw [HG, if_neg (by simp [h4]), if_pos (by simp [h1]), hk, Bool.true_and])
      clear HG
      go_enter Tryz.func160, Tryz.ntmps160
      go_wp2_with (first
       | ((with_reducible refine wpList_load_row (o := ⟨some 7, _, _, _, _, _⟩) rfl 117 (.tmp 3) rfl w.heap.size ?lx 117 (mcells x) (0, 0) _ ?lg Tryz.underlying117 ?ld ?li ?_); (case lx => rfl); (case lg => exact heap_alloc_new w _); (case ld => rfl); (case li => kernel_rfl))
       | (go_at_call 167; refine (known_any x _).mono ?_; rintro e w1 ⟨rfl, hb1⟩; rw [h]; have hc := blk_cell (box_at hb1)))
      go_ret
      exact ⟨ret_bool HT.out.symm, bbox hb1⟩
     ·have HT : Hid (tkes x acks own = false) := Lib.hid (by rw [HG, if_neg (by simp [h4]), if_pos (by simp [h1]), hk, Bool.false_and])
      clear HG
      go_enter Tryz.func160, Tryz.ntmps160
      go_wp2_with (first
       | ((with_reducible refine wpList_load_row (o := ⟨some 7, _, _, _, _, _⟩) rfl 117 (.tmp 3) rfl w.heap.size ?lx 117 (mcells x) (0, 0) _ ?lg Tryz.underlying117 ?ld ?li ?_); (case lx => rfl); (case lg => exact heap_alloc_new w _); (case ld => rfl); (case li => kernel_rfl))
       | (go_at_call 167; refine (known_any x _).mono ?_; rintro e w1 ⟨rfl, hb1⟩; rw [h]; have hc := blk_cell (box_at hb1)))
      go_ret
      exact ⟨ret_bool HT.out.symm, bbox hb1⟩
    ·rcases Bool.eq_false_or_eq_true (own == 2) with h2 | h2
     ·rcases Bool.eq_false_or_eq_true (x.kd == 1) with hk | hk
      ·have HT : Hid (tkes x acks own = (acks == 0)) := Lib.hid (by rw [HG, if_neg (by simp [h4]), if_pos (by simp [h2]), hk, Bool.true_and])
       clear HG
       go_enter Tryz.func160, Tryz.ntmps160
       go_wp2_with (first
        | ((with_reducible refine wpList_load_row (o := ⟨some 7, _, _, _, _, _⟩) rfl 117 (.tmp 3) rfl w.heap.size ?lx 117 (mcells x) (0, 0) _ ?lg Tryz.underlying117 ?ld ?li ?_); (case lx => rfl); (case lg => exact heap_alloc_new w _); (case ld => rfl); (case li => kernel_rfl))
        | (go_at_call 167; refine (known_any x _).mono ?_; rintro e w1 ⟨rfl, hb1⟩; rw [h]; have hc := blk_cell (box_at hb1)))
       go_ret
       exact ⟨ret_bool HT.out.symm, bbox hb1⟩
      ·have HT : Hid (tkes x acks own = false) := Lib.hid (by rw [HG, if_neg (by simp [h4]), if_pos (by simp [h2]), hk, Bool.false_and])
       clear HG
       go_enter Tryz.func160, Tryz.ntmps160
       go_wp2_with (first
        | ((with_reducible refine wpList_load_row (o := ⟨some 7, _, _, _, _, _⟩) rfl 117 (.tmp 3) rfl w.heap.size ?lx 117 (mcells x) (0, 0) _ ?lg Tryz.underlying117 ?ld ?li ?_); (case lx => rfl); (case lg => exact heap_alloc_new w _); (case ld => rfl); (case li => kernel_rfl))
        | (go_at_call 167; refine (known_any x _).mono ?_; rintro e w1 ⟨rfl, hb1⟩; rw [h]; have hc := blk_cell (box_at hb1)))
       go_ret
       exact ⟨ret_bool HT.out.symm, bbox hb1⟩
     ·have HT : Hid (tkes x acks own = false) := Lib.hid (by rw [HG, if_neg (by simp [h4]), if_neg (by simp [h1, h2])])
      clear HG
      go_enter Tryz.func160, Tryz.ntmps160
      go_wp2_with (first
       | ((with_reducible refine wpList_load_row (o := ⟨some 7, _, _, _, _, _⟩) rfl 117 (.tmp 3) rfl w.heap.size ?lx 117 (mcells x) (0, 0) _ ?lg Tryz.underlying117 ?ld ?li ?_); (case lx => rfl); (case lg => exact heap_alloc_new w _); (case ld => rfl); (case li => kernel_rfl))
       | (go_at_call 167; refine (known_any x _).mono ?_; rintro e w1 ⟨rfl, hb1⟩; rw [h]; have hc := blk_cell (box_at hb1)))
      go_ret
      exact ⟨ret_bool HT.out.symm, bbox hb1⟩

abbrev isF (p : Addr) : Value := .func (.func 149) #[] #[.pointer (some p)]
abbrev osF : Value := .func (.func 121) #[] #[]
theorem ofLine_any (line : Int) (w : World) :
  Calls Tryz.prog 118 #[.int .i64 line] w fun e w' => e = .returned (isF ⟨w.heap.size, 0, none⟩) ∧ w.alloc (.cells #[.int .i64 line] 3) = w' := by
 have hmf : ∀ (fn : Fn) (first cap : Array Value) (w : World), (Instr.makeFunc fn first cap).run Tryz.prog w = .ok (.func fn first cap) w := fun _ _ _ _ => rfl
 go_enter Tryz.func118, Tryz.ntmps118
 go_wp2
 go_ret
 exact ⟨rfl, rfl⟩
theorem isIt_any (x : Ms) (p : Addr) (line : Int) (w : World) (hp : w.cell? p = some (.int .i64 line)) :
  Calls Tryz.prog 149 #[.agg (mcells x), .pointer (some p)] w fun e w' => e = .returned (.bool (isL line x)) ∧ Below w.heap.size w w' := by
 have hp2 : ∀ o, (w.alloc o).cell? p = some (.int .i64 line) := fun o => Lib.cell?_alloc_some o hp
 have HT : Hid (isL line x = (x.ln == line)) := Lib.hid rfl
 have hb := balloc w (.cells (mcells x) 117)
 go_enter Tryz.func149, Tryz.ntmps149
 go_wp2
 go_ret
 exact ⟨ret_bool HT.out.symm, hb⟩
theorem owes_any (x : Ms) (w : World) :
  Calls Tryz.prog 121 #[.agg (mcells x)] w fun e w' => e = .returned (.bool x.os) ∧ Below w.heap.size w w' := by
 have hb := balloc w (.cells (mcells x) 117)
 go_enter Tryz.func121, Tryz.ntmps121
 go_wp2
 go_ret
 exact ⟨rfl, hb⟩

end Go.Proofs.YtlfhkjjjocmpbaaGreatDoor.Mh

namespace Go.Proofs.YtlfhkjjjocmpbaaGreatDoor.Mh
open Go Go.RowKit

set_option maxHeartbeats 1000000 in
theorem indexFuncL (q : Option Addr) (l : List Ms) (cp : Nat) (p : Addr) (line : Int) (w : World) (hl : MsIn w q l) (hn : l.length ≤ 5000) (hp : w.cell? p = some (.int .i64 line)) (hpb : p.block < w.heap.size) :
  Calls Tryz.prog 150 #[.slice q l.length cp, isF p] w fun e w' => e = .returned (.int .i64 (oi (l.findIdx? (isL line)))) ∧ Below w.heap.size w w' := by
 have HL := Lib.hid hl
 have HP := Lib.hid hp
 clear hp
 clear hl
 go_enter Tryz.func150, Tryz.ntmps150
 go_wp2
 go_loopw [8] (fun i wr => ∃ k : Nat, k ≤ l.length ∧ i = .int .i64 k ∧ Hid (∀ (j : Nat) (x : Ms), j < k → l[j]? = some x → isL line x = false) ∧ Below w.heap.size w wr) (fun i _ => l.length - (intOf i).toNat)
 case atStart => exact ⟨0, by omega, rfl, Lib.hid (fun j x hj => by omega), Below.refl _ _⟩
 case round =>
  obtain ⟨k, hk, rfl, HJ, hb⟩ := hrel
  by_cases hlt : k < l.length
  ·obtain ⟨x, hx⟩ : ∃ x, l[k]? = some x := ⟨_, List.getElem?_eq_getElem hlt⟩
   obtain ⟨g, rfl, hg, hr⟩ := HL.out.step hb k x hx
   have HR := Lib.hid hr
   have HC := Lib.hid ((hb.cell hpb).trans HP.out)
   have HX := Lib.hid hx
   clear hx hr
   go_wp2_with (first
    | ((with_reducible refine wpList_load_mid (op := ⟨some 15, _, _, _, _, _⟩) rfl 117 (.tmp 14) rfl g (k * 15) ?lx (mc x) _ ?lc Tryz.underlying117 ?ld ?li ?_); (case lx => rfl); (case lc => exact HR.out); (case ld => rfl); (case li => kernel_rfl))
    | (go_at_call 149; refine (isIt_any x p line _ HC.out).mono ?_; rintro e w1 ⟨rfl, hb1⟩))
   ·have h : isL line x = true := by assumption
    go_ret
    exact ⟨ret_int (by rw [find_some HX.out h HJ.out]; rfl), bstep hb hb1⟩
   ·have h : isL line x = false := by assumption
    have HK : Hid (∀ (j : Nat) (y : Ms), j < k + 1 → l[j]? = some y → isL line y = false) := Lib.hid (fun j y hj hy => by
     by_cases e : j = k
     ·subst e
      obtain rfl : x = y := Option.some.inj (HX.out.symm.trans hy)
      exact h
     ·exact HJ.out j y (by omega) hy)
    have hB := bstep hb hb1
    clear h
    go_roundw
    case rel => exact ⟨k + 1, by omega, by go_num, HK, hB⟩
    case measure => simp [intOf]; omega
  ·have HK : Hid (oi (l.findIdx? (isL line)) = -1) := Lib.hid (by rw [find_none (fun j x hx => HJ.out j x (by have := (List.getElem?_eq_some_iff.1 hx).1; omega) hx)]; rfl)
   go_wp2
   go_ret
   exact ⟨ret_int HK.out.symm, hb⟩

set_option maxHeartbeats 1000000 in
theorem indexFuncO (q : Option Addr) (l : List Ms) (cp : Nat) (w : World) (hl : MsIn w q l) (hn : l.length ≤ 5000) :
  Calls Tryz.prog 150 #[.slice q l.length cp, osF] w fun e w' => e = .returned (.int .i64 (oi (l.findIdx? (Ms.os)))) ∧ Below w.heap.size w w' := by
 have HL := Lib.hid hl
 skip
 clear hl
 go_enter Tryz.func150, Tryz.ntmps150
 go_wp2
 go_loopw [8] (fun i wr => ∃ k : Nat, k ≤ l.length ∧ i = .int .i64 k ∧ Hid (∀ (j : Nat) (x : Ms), j < k → l[j]? = some x → Ms.os x = false) ∧ Below w.heap.size w wr) (fun i _ => l.length - (intOf i).toNat)
 case atStart => exact ⟨0, by omega, rfl, Lib.hid (fun j x hj => by omega), Below.refl _ _⟩
 case round =>
  obtain ⟨k, hk, rfl, HJ, hb⟩ := hrel
  by_cases hlt : k < l.length
  ·obtain ⟨x, hx⟩ : ∃ x, l[k]? = some x := ⟨_, List.getElem?_eq_getElem hlt⟩
   obtain ⟨g, rfl, hg, hr⟩ := HL.out.step hb k x hx
   have HR := Lib.hid hr
   skip
   have HX := Lib.hid hx
   clear hx hr
   go_wp2_with (first
    | ((with_reducible refine wpList_load_mid (op := ⟨some 15, _, _, _, _, _⟩) rfl 117 (.tmp 14) rfl g (k * 15) ?lx (mc x) _ ?lc Tryz.underlying117 ?ld ?li ?_); (case lx => rfl); (case lc => exact HR.out); (case ld => rfl); (case li => kernel_rfl))
    | (go_at_call 121; refine (owes_any x _).mono ?_; rintro e w1 ⟨rfl, hb1⟩))
   ·have h : Ms.os x = true := by assumption
    go_ret
    exact ⟨ret_int (by rw [find_some HX.out h HJ.out]; rfl), bstep hb hb1⟩
   ·have h : Ms.os x = false := by assumption
    have HK : Hid (∀ (j : Nat) (y : Ms), j < k + 1 → l[j]? = some y → Ms.os y = false) := Lib.hid (fun j y hj hy => by
     by_cases e : j = k
     ·subst e
      obtain rfl : x = y := Option.some.inj (HX.out.symm.trans hy)
      exact h
     ·exact HJ.out j y (by omega) hy)
    have hB := bstep hb hb1
    clear h
    go_roundw
    case rel => exact ⟨k + 1, by omega, by go_num, HK, hB⟩
    case measure => simp [intOf]; omega
  ·have HK : Hid (oi (l.findIdx? (Ms.os)) = -1) := Lib.hid (by rw [find_none (fun j x hx => HJ.out j x (by have := (List.getElem?_eq_some_iff.1 hx).1; omega) hx)]; rfl)
   go_wp2
   go_ret
   exact ⟨ret_int HK.out.symm, hb⟩

theorem placeL {w : World} {B b : Nat} {room : Int} {l : List Ms} {v : Value} (h : BgP w B b room l v) (p : Addr) (line : Int) (hn : l.length ≤ 5000) (hp : w.cell? p = some (.int .i64 line)) (hpb : p.block < w.heap.size) :
  Calls Tryz.prog 122 #[.pointer (some ⟨b, 0, none⟩), isF p] w fun e w' => e = .returned (.int .i64 (oi (l.findIdx? (isL line)))) ∧ Below w.heap.size w w' := by
 obtain ⟨q, cap, rfl, hin⟩ := h.ins
 have HC := Lib.hid (indexFuncL q l cap p line w hin hn hp hpb)
 have c1 := blk_cell h.blk 1
 simp at c1
 clear h hin hp
 go_enter Tryz.func122, Tryz.ntmps122
 go_wp2_with (go_at_call 150; refine HC.out.mono ?_; rintro e w1 ⟨rfl, hb1⟩)
 go_ret
 exact ⟨rfl, hb1⟩
theorem firstL_no {w : World} {B b : Nat} {room : Int} {l : List Ms} {v : Value} (h : BgP w B b room l v) (p : Addr) (line : Int) (hn : l.length ≤ 5000) (hp : w.cell? p = some (.int .i64 line)) (hpb : p.block < w.heap.size) (hf : l.findIdx? (isL line) = none) :
  Calls Tryz.prog 117 #[.pointer (some ⟨b, 0, none⟩), isF p] w fun e w' => e = .returned (.pointer none) ∧ Below w.heap.size w w' := by
 have HC := placeL h p line hn hp hpb
 rw [hf] at HC
 have HC := Lib.hid HC
 clear h hf hp
 go_enter Tryz.func117, Tryz.ntmps117
 go_wp2_with (go_at_call 122; refine HC.out.mono ?_; rintro e w1 ⟨rfl, hb1⟩; simp only [oi])
 go_ret
 exact ⟨rfl, hb1⟩
set_option maxHeartbeats 1000000 in
theorem firstL_yes {w : World} {B b : Nat} {room : Int} {l : List Ms} {g cap : Nat} (h : BgP w B b room l (.slice (some ⟨g, 0, none⟩) l.length cap)) (p : Addr) (line : Int) (hn : l.length ≤ 5000) (hp : w.cell? p = some (.int .i64 line)) (hpb : p.block < w.heap.size) {i : Nat} (hf : l.findIdx? (isL line) = some i) (hi : i < l.length) :
  Calls Tryz.prog 117 #[.pointer (some ⟨b, 0, none⟩), isF p] w fun e w' => e = .returned (.pointer (some ⟨g, i * 15, none⟩)) ∧ Below w.heap.size w w' := by
 have HC := placeL h p line hn hp hpb
 rw [hf] at HC
 have HC := Lib.hid HC
 have HH := Lib.hid (fun w1 (hb : Below w.heap.size w w1) => blk_cell (h.below hb).blk)
 clear h hf hp
 go_enter Tryz.func117, Tryz.ntmps117
 go_wp2_with (go_at_call 122; refine HC.out.mono ?_; rintro e w1 ⟨rfl, hb1⟩; simp only [oi]; have c1 := HH.out w1 hb1 1; simp at c1)
 go_ret
 exact ⟨rfl, hb1⟩

theorem placeO {w : World} {B b : Nat} {room : Int} {l : List Ms} {v : Value} (h : BgP w B b room l v) (hn : l.length ≤ 5000) :
  Calls Tryz.prog 122 #[.pointer (some ⟨b, 0, none⟩), osF] w fun e w' => e = .returned (.int .i64 (oi (l.findIdx? (Ms.os)))) ∧ Below w.heap.size w w' := by
 obtain ⟨q, cap, rfl, hin⟩ := h.ins
 have HC := Lib.hid (indexFuncO q l cap  w hin hn)
 have c1 := blk_cell h.blk 1
 simp at c1
 clear h hin
 go_enter Tryz.func122, Tryz.ntmps122
 go_wp2_with (go_at_call 150; refine HC.out.mono ?_; rintro e w1 ⟨rfl, hb1⟩)
 go_ret
 exact ⟨rfl, hb1⟩
theorem firstO_no {w : World} {B b : Nat} {room : Int} {l : List Ms} {v : Value} (h : BgP w B b room l v) (hn : l.length ≤ 5000) (hf : l.findIdx? (Ms.os) = none) :
  Calls Tryz.prog 117 #[.pointer (some ⟨b, 0, none⟩), osF] w fun e w' => e = .returned (.pointer none) ∧ Below w.heap.size w w' := by
 have HC := placeO h  hn
 rw [hf] at HC
 have HC := Lib.hid HC
 clear h hf
 go_enter Tryz.func117, Tryz.ntmps117
 go_wp2_with (go_at_call 122; refine HC.out.mono ?_; rintro e w1 ⟨rfl, hb1⟩; simp only [oi])
 go_ret
 exact ⟨rfl, hb1⟩
set_option maxHeartbeats 1000000 in
theorem firstO_yes {w : World} {B b : Nat} {room : Int} {l : List Ms} {g cap : Nat} (h : BgP w B b room l (.slice (some ⟨g, 0, none⟩) l.length cap)) (hn : l.length ≤ 5000) {i : Nat} (hf : l.findIdx? (Ms.os) = some i) (hi : i < l.length) :
  Calls Tryz.prog 117 #[.pointer (some ⟨b, 0, none⟩), osF] w fun e w' => e = .returned (.pointer (some ⟨g, i * 15, none⟩)) ∧ Below w.heap.size w w' := by
 have HC := placeO h  hn
 rw [hf] at HC
 have HC := Lib.hid HC
 have HH := Lib.hid (fun w1 (hb : Below w.heap.size w w1) => blk_cell (h.below hb).blk)
 clear h hf
 go_enter Tryz.func117, Tryz.ntmps117
 go_wp2_with (go_at_call 122; refine HC.out.mono ?_; rintro e w1 ⟨rfl, hb1⟩; simp only [oi]; have c1 := HH.out w1 hb1 1; simp at c1)
 go_ret
 exact ⟨rfl, hb1⟩

end Go.Proofs.YtlfhkjjjocmpbaaGreatDoor.Mh

namespace Go.Proofs.YtlfhkjjjocmpbaaGreatDoor.Mh
open Go Go.RowKit

theorem new_no (room : Int) (w : World) (h : room < 1 ∨ 8 < room) :
  Calls Tryz.prog 30 #[.int .i64 room] w fun e w' => e = .returned (.tuple #[.pointer none, .int .i64 1]) ∧ w = w' := by
 rcases h with h | h
 ·go_enter Tryz.func30, Tryz.ntmps30
  go_wp2
  go_ret2
  exact ⟨rfl, rfl⟩
 ·have h1 : ¬ room < 1 := by omega
  go_enter Tryz.func30, Tryz.ntmps30
  go_wp2
  go_ret2
  exact ⟨rfl, rfl⟩
theorem new_yes (room : Int) (w : World) (h : 1 ≤ room) (h2 : room ≤ 8) :
  Calls Tryz.prog 30 #[.int .i64 room] w fun e w' => e = .returned (.tuple #[.pointer (some ⟨w.heap.size, 0, none⟩), .int .i64 0]) ∧ w.alloc (.cells #[.int .i64 room, .slice none 0 0] 151) = w' := by
 go_enter Tryz.func30, Tryz.ntmps30
 go_wp2
 go_ret2
 exact ⟨rfl, rfl⟩

theorem clone_any {w : World} {B : Nat} {v : Value} {l : List Ms} (h : w.ownsRow B 117 15 v l.length (cellsOf mc l)) (hl : l.length ≤ 5000) :
  Calls Tryz.prog 124 #[v] w (RowGave 117 15 mc l w) := by
 obtain ⟨i0, hi0, hz0, hz1, hz2⟩ := info_parts A34
 have hq := fun (w : World) (a : Option Addr) (n c n' c' : Nat) => Lib.run_eql_slice_nil (P := Tryz.prog) w 98 117 a n c n' c' Tryz.underlying98
 rcases h.2 with ⟨rfl, h0⟩ | ⟨g, cap, cur, rfl, hb, hg, rest⟩
 ·have e : l = [] := List.eq_nil_of_length_eq_zero h0
  subst e
  clear h h0 hl
  go_enter Tryz.func124, Tryz.ntmps124
  go_wp2
  go_ret
  exact ⟨_, rfl, World.ownsRow_nil _ _ _ _, Below.refl _ _⟩
 ·have hcell := h.cells (g := g) rfl
  have HC := Lib.hid hcell
  have HL := Lib.hid (cellsOf_len mc_len l)
  have H1 : Hid (∀ u ∈ cellsOf mc l, u.oneCell' = true) := Lib.hid (mcs_one l)
  clear h hcell hg rest
  go_enter Tryz.func124, Tryz.ntmps124
  go_wp2_with (at_builtin; refine wpList_append_own _ rfl (.tmp 5) (.tmp 6) 98 rfl w.heap.size 117 i0 (.agg (mcells m0)) 15 112 Tryz.underlying98 hi0 hz0 hz1 hz2 rfl (by decide) _ _ _ rfl (World.ownsRow_made w #[] 0 (Nat.le_refl _) (Nat.zero_le _) rfl) ⟨g, 0, none⟩ l.length cap (cellsOf mc l) rfl HL.out ?c1 H1.out ?c3 ?c4 ?c5 ?_)
  case c1 => exact fun j u hj => (Lib.cell?_alloc_some _ (HC.out j u hj))
  case c3 => simp only [maxLen]; omega
  case c4 => omega
  case c5 => simp
  intro v' w1 hown hgrow hnil
  go_wp2
  go_ret
  exact ⟨v', rfl, by simpa using hown, ((Below.refl _ w).alloc (Nat.le_refl _) _).grown hgrow (by simp) (by intro k hk; simp [Value.ownBlock] at hk; omega)⟩

theorem list_any {w : World} {B b : Nat} {room : Int} {l : List Ms} {v : Value} (h : BgP w B b room l v) (hl : l.length ≤ 5000) :
  Calls Tryz.prog 67 #[.pointer (some ⟨b, 0, none⟩)] w (RowGave 117 15 mc l w) := by
 have HC := Lib.hid (clone_any h.row hl)
 have c1 := blk_cell h.blk 1
 simp at c1
 clear h
 go_enter Tryz.func67, Tryz.ntmps67
 go_wp2_with (go_at_call 124; refine HC.out.mono ?_; rintro e w1 ⟨v', rfl, hown, hb⟩)
 go_ret
 exact ⟨v', rfl, hown, hb⟩

def RetM (x : Ms) (q : Bool) (P : World → Prop) (e : Ending) (w' : World) : Prop := e = .returned (.tuple #[.agg (mcells x), .bool q]) ∧ P w'
theorem get_ret {wr : World} {x : Ms} {q : Bool} {P : World → Prop} {a : Act} {g : Nat} (hp : a.tmps.getD 4 undef = .pointer (some ⟨g, 0, none⟩)) (hq : a.tmps.getD 5 undef = .bool q) (hd : a.defers = []) (hg : wr.heap[g]? = some (.cells (mcells x) 117 (0, 0))) (hb : P wr) :
  bodyPost Tryz.prog Tryz.f147 (RetM x q P) Exit.ret a wr :=
 bodyPost_ret (v := .tuple #[.agg (mcells x), a.tmps.getD 5 undef]) (results_cell_two Tryz.results147 _ _ g 117 _ (0, 0) _ hp hg Tryz.underlying117 rfl (by kernel_rfl)) hd ⟨by rw [hq], hb⟩
theorem owe_ret {wr : World} {x : Ms} {q : Bool} {P : World → Prop} {a : Act} {g : Nat} (hp : a.tmps.getD 4 undef = .pointer (some ⟨g, 0, none⟩)) (hq : a.tmps.getD 5 undef = .bool q) (hd : a.defers = []) (hg : wr.heap[g]? = some (.cells (mcells x) 117 (0, 0))) (hb : P wr) :
  bodyPost Tryz.prog Tryz.f156 (RetM x q P) Exit.ret a wr :=
 bodyPost_ret (v := .tuple #[.agg (mcells x), a.tmps.getD 5 undef]) (results_cell_two Tryz.results156 _ _ g 117 _ (0, 0) _ hp hg Tryz.underlying117 rfl (by kernel_rfl)) hd ⟨by rw [hq], hb⟩

theorem line_at (w : World) (o : Obj) (line : Int) : ((w.alloc o).alloc (.cells #[.int .i64 line] 3)).cell? ⟨w.heap.size + 1, 0, none⟩ = some (.int .i64 line) := by
 simp
theorem balloc2 (w : World) (o o2 : Obj) : Below w.heap.size w ((w.alloc o).alloc o2) := bstep (balloc w o) (balloc _ o2)
set_option maxHeartbeats 1000000 in

theorem get_any {w : World} {B b : Nat} {room : Int} {l : List Ms} {v : Value} (h : BgP w B b room l v) (line : Int) (hl : l.length ≤ 5000) :
  Calls Tryz.prog 147 #[.pointer (some ⟨b, 0, none⟩), .int .i64 line] w (RetM (getP l line).1 (getP l line).2 (Below w.heap.size w)) := by
 rcases hp : fnd l line with _ | i
 ·rw [getP_none hp]
  have HP := Lib.hid (fun (o : Obj) => firstL_no (h.below (balloc2 w o (.cells #[.int .i64 line] 3))) ⟨w.heap.size + 1, 0, none⟩ line hl (line_at w o line) (by simp) hp)
  clear h hp
  go_enter Tryz.func147, Tryz.ntmps147
  go_wp2_with fail
  refine (ofLine_any line _).mono ?_
  rintro e w1 ⟨rfl, rfl⟩
  go_wp2_with fail
  refine (HP.out _).mono ?_
  rintro e w1 ⟨rfl, hb1⟩
  have hb2 := bstep (balloc _ _) hb1
  clear hb1
  go_wp2_with ((with_reducible refine wpList_store_row (o := ⟨none, _, _, _, _, _⟩) rfl 117 (.tmp 4) (.tmp 13) rfl w.heap.size (mcells m0) ?sx ?sy 117 ?old ?sg ?si ?so ?s1 ?_); (case sx => rfl); (case sy => rfl); (case old => exact mcells m0); (case sg => exact box_at hb2); (case si => kernel_rfl); (case so => rfl); (case s1 => kernel_rfl))
  exact get_ret rfl rfl rfl (setRow_heap _ _ _ _ _ _ (box_at hb2)) (below_setRow (bbox hb2) (Nat.le_refl _) _)
 ·obtain ⟨x, hx, _, hi⟩ := fnd_some hp
  rw [getP_yes hp hx]
  obtain ⟨g, cap, rfl, hbg, hgl, hBg, hr, hfz, _, _⟩ := h.one hx
  have HP := Lib.hid (fun (o : Obj) => firstL_yes (h.below (balloc2 w o (.cells #[.int .i64 line] 3))) ⟨w.heap.size + 1, 0, none⟩ line hl (line_at w o line) (by simp) hp hi)
  have HR := Lib.hid (fun w1 (hb : Below w.heap.size w w1) => (show w1.rangeAt g (i * 15) (mc x) from fun j u hu => (hb.cell (p := ⟨g, i * 15 + j, none⟩) hgl).trans (hr j u hu)))
  clear h hp hx hr hfz
  go_enter Tryz.func147, Tryz.ntmps147
  go_wp2_with fail
  refine (ofLine_any line _).mono ?_
  rintro e w1 ⟨rfl, rfl⟩
  go_wp2_with fail
  refine (HP.out _).mono ?_
  rintro e w1 ⟨rfl, hb1⟩
  have hb2 := bstep (balloc _ _) hb1
  clear hb1
  go_wp2_with (first
   | ((with_reducible refine wpList_load_mid (op := ⟨some 16, _, _, _, _, _⟩) rfl 117 (.tmp 15) rfl g (i * 15) ?lx (mc x) _ ?lc Tryz.underlying117 ?ld ?li ?_); (case lx => rfl); (case lc => exact HR.out _ (bbox hb2)); (case ld => rfl); (case li => kernel_rfl))
   | ((with_reducible refine wpList_store_row (o := ⟨none, _, _, _, _, _⟩) rfl 117 (.tmp 4) (.tmp 16) rfl w.heap.size (mcells x) ?sx ?sy 117 ?old ?sg ?si ?so ?s1 ?_); (case sx => rfl); (case sy => rfl); (case old => exact mcells m0); (case sg => exact box_at hb2); (case si => kernel_rfl); (case so => rfl); (case s1 => kernel_rfl)))
  exact get_ret rfl rfl rfl (setRow_heap _ _ _ _ _ _ (box_at hb2)) (below_setRow (bbox hb2) (Nat.le_refl _) _)

set_option maxHeartbeats 1000000 in

theorem owing_any {w : World} {B b : Nat} {room : Int} {l : List Ms} {v : Value} (h : BgP w B b room l v) (hl : l.length ≤ 5000) :
  Calls Tryz.prog 64 #[.pointer (some ⟨b, 0, none⟩)] w fun e w' => e = .returned (.tuple #[.int .i64 (owingP l).1, .bool (owingP l).2]) ∧ Below w.heap.size w w' := by
 rcases hp : l.findIdx? Ms.os with _ | i
 ·rw [owingP_none hp]
  have HP := Lib.hid (firstO_no h hl hp)
  clear h hp
  go_enter Tryz.func64, Tryz.ntmps64
  go_wp2_with (go_at_call 117; refine HP.out.mono ?_; rintro e w1 ⟨rfl, hb1⟩)
  go_ret2
  exact ⟨rfl, hb1⟩
 ·have hi := (List.findIdx?_eq_some_iff_getElem.1 hp).1
  obtain ⟨x, hx⟩ : ∃ x, l[i]? = some x := ⟨_, List.getElem?_eq_getElem hi⟩
  rw [owingP_yes hp hx]
  obtain ⟨g, cap, rfl, hbg, hgl, hBg, hr, hfz, _, _⟩ := h.one hx
  have HP := Lib.hid (firstO_yes h hl hp hi)
  have HR := Lib.hid (fun w1 (hb : Below w.heap.size w w1) => (hb.cell (p := ⟨g, i * 15, none⟩) hgl).trans (hr 0 _ rfl))
  clear h hp hx hr hfz
  go_enter Tryz.func64, Tryz.ntmps64
  go_wp2_with (go_at_call 117; refine HP.out.mono ?_; rintro e w1 ⟨rfl, hb1⟩; have hc := HR.out _ hb1)
  go_ret2
  exact ⟨rfl, hb1⟩

end Go.Proofs.YtlfhkjjjocmpbaaGreatDoor.Mh

namespace Go.Proofs.YtlfhkjjjocmpbaaGreatDoor.Mh
open Go Go.RowKit

structure GaveP (w : World) (B b : Nat) (room : Int) (v : Value) (r : Int × List Ms) (e : Ending) (w' : World) : Prop where
 res : e = .returned (.int .i64 r.1)
 put : PutGave 151 117 15 mc w B b room r.2 v w'

theorem kind_no {kind : Int} (h : (kind != 1 && kind != 2) = true) : (kind != 1) = true ∧ (kind != 2) = true := by simpa using h
set_option maxHeartbeats 2000000 in
theorem open_any {w : World} {B b : Nat} {room : Int} {l : List Ms} {v : Value} (h : BgP w B b room l v) (hB : B ≤ w.heap.size) (line kind : Int) (hr : room ≤ 8) (hl : (l.length : Int) ≤ room) :
  Calls Tryz.prog 58 #[.pointer (some ⟨b, 0, none⟩), .int .i64 line, .int .i64 kind] w (GaveP w B b room v (openP room l line kind)) := by
 have HEl : ∀ n, openP room l line kind = (n, l) → Hid (∀ w', Below w.heap.size w w' → GaveP w B b room v (openP room l line kind) (.returned (.int .i64 n)) w') := fun n e => Lib.hid (fun w' hb => by
  rw [e]
  exact ⟨rfl, gave_same h hb⟩)
 rcases Bool.eq_false_or_eq_true (kind != 1 && kind != 2) with hk | hk
 ·have HE := HEl 1 (openP_kind hk)
  obtain ⟨k1, k2⟩ := kind_no hk
  clear h HEl hk
  go_enter Tryz.func58, Tryz.ntmps58
  go_wp2
  go_ret
  exact HE.out _ (Below.refl _ _)
 ·have hks : (kind != 1) = false ∨ (kind != 1) = true ∧ (kind != 2) = false := by
   rcases Bool.eq_false_or_eq_true (kind != 1) with h1 | h1
   ·exact .inr ⟨h1, by simpa [h1] using hk⟩
   ·exact .inl h1
  have hbx := balloc w (.cells #[.int .i64 line] 3)
  rcases hp : fnd l line with _ | i
  ·have HP := Lib.hid (firstL_no (h.below hbx) ⟨w.heap.size, 0, none⟩ line (by omega) (by simp) (by simp) hp)
   have HC := Lib.hid (fun w1 (hb : Below w.heap.size w w1) => (h.below hb).blk)
   by_cases hf : (l.length : Int) = room
   ·have HE := HEl 4 (openP_full hk hp hf)
    have hfb : ((l.length : Int) == room) = true := by simpa using hf
    obtain ⟨q, cap, rfl, hq⟩ := h.form
    clear h HEl hk hp hf hq
    rcases hks with k1 | ⟨k1, k2⟩
    all_goals
     go_enter Tryz.func58, Tryz.ntmps58
     go_wp2_with fail
     refine (ofLine_any line _).mono ?_
     rintro e w1 ⟨rfl, rfl⟩
     go_wp2_with fail
     refine HP.out.mono ?_
     rintro e w1 ⟨rfl, hb1⟩
     have hb2 := bbox hb1
     have hc := blk_cell (HC.out _ hb2)
     have c0 := hc 0
     have c1 := hc 1
     simp at c0 c1
     clear hb1 hc
     go_wp2
     go_quiet (fail)
     go_wp2
     go_ret
     exact HE.out _ (below_drewN hb2 _)
   ·have e0 := openP_yes hk hp hf
    have hfb : ((l.length : Int) == room) = false := by simpa using hf
    have H := Lib.hid h
    have hlt := h.lt
    obtain ⟨q, cap0, e1, hq⟩ := h.form
    obtain ⟨i0, hi, hz0, hz1, hz2⟩ := info_parts A34
    have HZ := Lib.hid e0
    have hll : l.length ≤ 8 := by omega
    subst e1
    clear h HEl hk hp hf hq e0
    rcases hks with k1 | ⟨k1, k2⟩
    all_goals
     go_enter Tryz.func58, Tryz.ntmps58
     go_wp2_with fail
     refine (ofLine_any line _).mono ?_
     rintro e w1 ⟨rfl, rfl⟩
     go_wp2_with fail
     refine HP.out.mono ?_
     rintro e w1 ⟨rfl, hb1⟩
     have hb2 := bbox hb1
     have hc := blk_cell (HC.out _ hb2)
     have c0 := hc 0
     have c1 := hc 1
     simp at c0 c1
     clear hb1 hc
     go_wp2
     go_quiet (fail)
     have hb3 := below_drewN hb2 nq
     clear hb2 c0 c1
     generalize w1.drewN nq = w2 at *
     have H1 := Lib.hid (H.out.below hb3)
     have c1 := blk_cell H1.out.blk 1
     have f1 := blk_free H1.out.blk 1
     have hsz := hb3.size
     have HB3 := Lib.hid hb3
     simp at c1
     clear hb3
     go_wp2_with (at_builtin; refine wpList_append_lies _ rfl (.tmp 35) (.tmp 39) 98 rfl B 117 i0 (.agg (mcells m0)) 15 112 Tryz.underlying98 hi hz0 hz1 hz2 rfl (by decide) _ l.length (cellsOf mc l) rfl (H1.out.row.alloc _) ⟨w2.heap.size, 0, none⟩ 1 1 (mc (newM line kind)) rfl rfl ?c1 ?c2 (by decide) ?c3 ?c4 ?c5 _ rfl ?_)
     case c1 => exact World.news_of_block (cs := mcells (newM line kind)) (t := 117) (fr := (0, 0)) (heap_alloc_new w2 _)
     case c2 => exact mc_one _
     case c3 => simp only [maxLen]; omega
     case c4 => omega
     case c5 => simp; omega
     intro gg cap w3 hown hgrow hat hlt3
     have hb4 := put_blk H1.out (balloc w2 (.cells (mcells (newM line kind)) 117)) hgrow
     have c2 := blk_cell hb4 1
     have f2 := blk_free hb4 1
     simp at c2
     have R := put_gave (x := newM line kind) H.out (bstep HB3.out (balloc w2 (.cells (mcells (newM line kind)) 117))) hown hgrow (hat.imp id fun h => by omega)
     clear hown hgrow hat hb4 c1 f1
     go_wp2
     go_ret
     rw [HZ.out]
     exact ⟨rfl, R⟩
  ·obtain ⟨x, hx, _, hi⟩ := fnd_some hp
   have HE := HEl 6 (openP_twice hk hp)
   obtain ⟨g, cap, rfl, hbg, hgl, hBg, hr, hfz, _, _⟩ := h.one hx
   have HP := Lib.hid (firstL_yes (h.below hbx) ⟨w.heap.size, 0, none⟩ line (by omega) (by simp) (by simp) hp hi)
   clear h HEl hk hp hx hr hfz
   rcases hks with k1 | ⟨k1, k2⟩
   all_goals
    go_enter Tryz.func58, Tryz.ntmps58
    go_wp2_with fail
    refine (ofLine_any line _).mono ?_
    rintro e w1 ⟨rfl, rfl⟩
    go_wp2_with fail
    refine HP.out.mono ?_
    rintro e w1 ⟨rfl, hb1⟩
    go_wp2
    go_ret
    exact HE.out _ (bbox hb1)

end Go.Proofs.YtlfhkjjjocmpbaaGreatDoor.Mh

namespace Go.Proofs.YtlfhkjjjocmpbaaGreatDoor.Mh
open Go Go.RowKit

structure At1 (w : World) (g i : Nat) (x : Ms) : Prop where
 lt : g < w.heap.size
 row : w.rangeAt g (i * 15) (mc x)
 fz : ∀ o, w.frozen? ⟨g, o, none⟩ = false
theorem Bg.at1 {T e : TypeId} {w : World} {B b : Nat} {room : Int} {l : List Ms} {g cap : Nat} (h : Bg T e 15 mc w B b room l (.slice (some ⟨g, 0, none⟩) l.length cap)) {i : Nat} {x : Ms} (hx : l[i]? = some x) : At1 w g i x := by
 obtain ⟨g', cap', e0, _, hg, _, hr, hf, _, _⟩ := h.one hx
 obtain ⟨rfl, rfl⟩ : g = g' ∧ cap = cap' := by simpa using e0
 exact ⟨hg, hr, hf⟩
theorem At1.load {w : World} {g i : Nat} {x : Ms} (h : At1 w g i x) : (Instr.loadAt 117 (.pointer (some ⟨g, i * 15, none⟩))).run Tryz.prog w = .ok (.agg (mcells x)) w :=
 run_loadAt_mid w g (i * 15) 117 (mc x) _ h.row Tryz.underlying117 rfl (by kernel_rfl)
theorem At1.cells {w : World} {g i : Nat} {x : Ms} (h : At1 w g i x) : w.cell? ⟨g, i * 15, none⟩ = some (.int .i64 x.ln) ∧ w.cell? ⟨g, i * 15 + 1, none⟩ = some (.int .i64 x.kd) ∧ w.cell? ⟨g, i * 15 + 2, none⟩ = some (.int .i64 x.nd) ∧ w.cell? ⟨g, i * 15 + 3, none⟩ = some (.int .i64 x.gt) ∧ w.cell? ⟨g, i * 15 + 4, none⟩ = some (.int .i64 x.ow) ∧ w.cell? ⟨g, i * 15 + 5, none⟩ = some (.int .i64 x.wd.w0) ∧ w.cell? ⟨g, i * 15 + 6, none⟩ = some (.int .i64 x.wd.w1) ∧ w.cell? ⟨g, i * 15 + 7, none⟩ = some (.int .i64 x.wd.w2) ∧ w.cell? ⟨g, i * 15 + 8, none⟩ = some (.int .i64 x.wd.w3) ∧ w.cell? ⟨g, i * 15 + 9, none⟩ = some (.int .i64 x.wd.w4) ∧ w.cell? ⟨g, i * 15 + 10, none⟩ = some (.int .i64 x.wd.w5) ∧ w.cell? ⟨g, i * 15 + 11, none⟩ = some (.int .i64 x.wd.w6) ∧ w.cell? ⟨g, i * 15 + 12, none⟩ = some (.int .i64 x.wd.w7) ∧ w.cell? ⟨g, i * 15 + 13, none⟩ = some (.bool x.gr) ∧ w.cell? ⟨g, i * 15 + 14, none⟩ = some (.bool x.os) :=
   ⟨h.row 0 _ rfl, h.row 1 _ rfl, h.row 2 _ rfl, h.row 3 _ rfl, h.row 4 _ rfl, h.row 5 _ rfl, h.row 6 _ rfl, h.row 7 _ rfl, h.row 8 _ rfl, h.row 9 _ rfl, h.row 10 _ rfl, h.row 11 _ rfl, h.row 12 _ rfl, h.row 13 _ rfl, h.row 14 _ rfl⟩
theorem PutGave.after {T e : TypeId} {w w1 w2 : World} {B b : Nat} {room : Int} {l : List Ms} {v : Value} (h : PutGave T e 15 mc w1 B b room l v w2) (hb : Below w.heap.size w w1) : PutGave T e 15 mc w B b room l v w2 := by
 obtain ⟨v', h1, h2, h3⟩ := h
 exact ⟨v', h1, (Turn.of_below hb).trans h2 (Fresh.refl _ _), fun k hk => (h3 k hk).imp id fun h4 => Nat.le_trans hb.size h4⟩

set_option maxHeartbeats 1000000 in
theorem ack1_no (g i : Nat) (x : Ms) (w : World) (h : At1 w g i x) (hx : (x.kd == 1 || came x) = true) :
  Calls Tryz.prog 162 #[.pointer (some ⟨g, i * 15, none⟩)] w fun e w' => e = .returned (.bool false) ∧ Below w.heap.size w w' := by
 obtain ⟨q0, q1, q2, q3, q4, q5, q6, q7, q8, q9, q10, q11, q12, q13, q14⟩ := h.cells
 clear h
 rcases Bool.eq_false_or_eq_true (x.kd == 1) with hk | hk
 ·clear hx
  go_enter Tryz.func162, Tryz.ntmps162
  go_wp2
  go_ret
  exact ⟨rfl, Below.refl _ _⟩
 ·have hc : came x = true := by simpa [hk] using hx
  clear hx
  have HC := Lib.hid hc
  clear hc
  go_enter Tryz.func162, Tryz.ntmps162
  go_wp2_with (go_at_call 163; refine (came_any x _).mono ?_; rintro e w1 ⟨rfl, hb1⟩; rw [HC.out])
  go_ret
  exact ⟨rfl, hb1⟩
set_option maxHeartbeats 1000000 in
theorem ack1_yes {w : World} {B b : Nat} {room : Int} {l : List Ms} {g cap : Nat} (h : BgP w B b room l (.slice (some ⟨g, 0, none⟩) l.length cap)) {i : Nat} {x : Ms} (hx : l[i]? = some x) (hc : (x.kd == 1 || came x) = false) (h0 : 0 ≤ x.gt) (h1 : x.gt ≤ 1000) :
  Calls Tryz.prog 162 #[.pointer (some ⟨g, i * 15, none⟩)] w fun e w' => e = .returned (.bool true) ∧ PutGave 151 117 15 mc w B b room (l.set i (ackY x)) (.slice (some ⟨g, 0, none⟩) l.length cap) w' := by
 have ha := h.at1 hx
 obtain ⟨q0, q1, q2, q3, q4, q5, q6, q7, q8, q9, q10, q11, q12, q13, q14⟩ := ha.cells
 have hgl := ha.lt
 have HA := Lib.hid ha
 have hk : (x.kd == 1) = false := by simp at hc; simpa using hc.1
 have hcm : came x = false := by simp at hc; exact hc.2
 have HC := Lib.hid hcm
 have HE : Hid (∀ w1, Below w.heap.size w w1 → PutGave 151 117 15 mc w B b room (l.set i (ackY x)) (.slice (some ⟨g, 0, none⟩) l.length cap) (w1.setCell ⟨g, i * 15 + 3, none⟩ (.int .i64 (x.gt + 1)))) := Lib.hid (fun w1 hb =>
  gave_store h hb hx (ackY x) 3 [.int .i64 (x.gt + 1)] (by simp) (fun m hm => by simp at hm; subst hm; rfl) (fun m hm hm2 => by
   simp at hm2
   have : m = 0 ∨ m = 1 ∨ m = 2 ∨ m = 4 ∨ m = 5 ∨ m = 6 ∨ m = 7 ∨ m = 8 ∨ m = 9 ∨ m = 10 ∨ m = 11 ∨ m = 12 ∨ m = 13 ∨ m = 14 := by omega
   rcases this with rfl | rfl | rfl | rfl | rfl | rfl | rfl | rfl | rfl | rfl | rfl | rfl | rfl | rfl
   all_goals rfl))
 have HR : Hid (∀ w1, Below w.heap.size w w1 → w1.cell? ⟨g, i * 15 + 3, none⟩ = some (.int .i64 x.gt) ∧ w1.frozen? ⟨g, i * 15 + 3, none⟩ = false) := Lib.hid (fun w1 hb => ⟨(hb.cell (p := ⟨g, i * 15 + 3, none⟩) hgl).trans (HA.out.row 3 _ rfl), (hb.frozen (p := ⟨g, i * 15 + 3, none⟩) hgl).trans (HA.out.fz _)⟩)
 clear h hx hc ha hcm HA
 go_enter Tryz.func162, Tryz.ntmps162
 go_wp2_with (go_at_call 163; refine (came_any x _).mono ?_; rintro e w1 ⟨rfl, hb1⟩; rw [HC.out]; obtain ⟨c3, f3⟩ := HR.out w1 hb1)
 go_ret
 exact ⟨rfl, HE.out _ hb1⟩

abbrev ackV : Value := .func (.func 162) #[] #[]
set_option maxHeartbeats 1000000 in
theorem changeA {w : World} {B b : Nat} {room : Int} {l : List Ms} {v : Value} (h : BgP w B b room l v) (line : Int) (hl : l.length ≤ 5000) (hg : ∀ x ∈ l, 0 ≤ x.gt ∧ x.gt ≤ 1000) :
  Calls Tryz.prog 158 #[.pointer (some ⟨b, 0, none⟩), .int .i64 line, ackV] w (GaveP w B b room v (chg l line ackF)) := by
 have HEl : ∀ n, chg l line ackF = (n, l) → Hid (∀ w', Below w.heap.size w w' → GaveP w B b room v (chg l line ackF) (.returned (.int .i64 n)) w') := fun n e => Lib.hid (fun w' hb => by
  rw [e]
  exact ⟨rfl, gave_same h hb⟩)
 have hbx := balloc w (.cells #[.int .i64 line] 3)
 rcases hp : fnd l line with _ | i
 ·have HP := Lib.hid (firstL_no (h.below hbx) ⟨w.heap.size, 0, none⟩ line hl (by simp) (by simp) hp)
  have HE := HEl 5 (chg_none _ hp)
  clear h HEl hp
  go_enter Tryz.func158, Tryz.ntmps158
  go_wp2_with fail
  refine (ofLine_any line _).mono ?_
  rintro e w1 ⟨rfl, rfl⟩
  go_wp2_with fail
  refine HP.out.mono ?_
  rintro e w1 ⟨rfl, hb1⟩
  go_wp2
  go_ret
  exact HE.out _ (bbox hb1)
 ·obtain ⟨x, hx, _, hi⟩ := fnd_some hp
  obtain ⟨g, cap, rfl, hbg, hgl, hBg, hr, hfz, _, _⟩ := h.one hx
  have HP := Lib.hid (firstL_yes (h.below hbx) ⟨w.heap.size, 0, none⟩ line hl (by simp) (by simp) hp hi)
  obtain ⟨g0, g1⟩ := hg x (List.mem_of_getElem? hx)
  rcases Bool.eq_false_or_eq_true (x.kd == 1 || came x) with ht | ht
  ·have HE := HEl 7 (chg_no hp hx (ackF_no ht))
   have HC := Lib.hid (fun w1 (hb : Below w.heap.size w w1) => ack1_no g i x w1 ((h.below hb).at1 hx) ht)
   clear h HEl hp hx hr hfz ht hg
   go_enter Tryz.func158, Tryz.ntmps158
   go_wp2_with fail
   refine (ofLine_any line _).mono ?_
   rintro e w1 ⟨rfl, rfl⟩
   go_wp2_with fail
   refine HP.out.mono ?_
   rintro e w1 ⟨rfl, hb1⟩
   have hb2 := bbox hb1
   clear hb1
   go_wp2_with fail
   refine (HC.out _ hb2).mono ?_
   rintro e w3 ⟨rfl, hb3⟩
   go_wp2
   go_ret
   exact HE.out _ (bstep hb2 hb3)
  ·have HZ := Lib.hid (chg_yes hp hx (ackF_yes ht))
   have HC := Lib.hid (fun w1 (hb : Below w.heap.size w w1) => ack1_yes (h.below hb) hx ht g0 g1)
   clear h HEl hp hx hr hfz ht hg
   go_enter Tryz.func158, Tryz.ntmps158
   go_wp2_with fail
   refine (ofLine_any line _).mono ?_
   rintro e w1 ⟨rfl, rfl⟩
   go_wp2_with fail
   refine HP.out.mono ?_
   rintro e w1 ⟨rfl, hb1⟩
   have hb2 := bbox hb1
   clear hb1
   go_wp2_with fail
   refine (HC.out _ hb2).mono ?_
   rintro e w3 ⟨rfl, R⟩
   have R := Lib.hid (R.after hb2)
   go_wp2
   go_ret
   rw [HZ.out]
   exact ⟨rfl, R.out⟩

theorem ack_any {w : World} {B b : Nat} {room : Int} {l : List Ms} {v : Value} (h : BgP w B b room l v) (line : Int) (hl : l.length ≤ 5000) (hg : ∀ x ∈ l, 0 ≤ x.gt ∧ x.gt ≤ 1000) :
  Calls Tryz.prog 144 #[.pointer (some ⟨b, 0, none⟩), .int .i64 line] w (GaveP w B b room v (chg l line ackF)) := by
 have HC := Lib.hid (changeA h line hl hg)
 clear h hg
 go_enter Tryz.func144, Tryz.ntmps144
 go_wp2_with fail
 refine HC.out.mono ?_
 rintro e w1 ⟨rfl, R⟩
 have R := Lib.hid R
 go_wp2
 go_ret
 exact ⟨rfl, R.out⟩
end Go.Proofs.YtlfhkjjjocmpbaaGreatDoor.Mh

namespace Go.Proofs.YtlfhkjjjocmpbaaGreatDoor.Mh
open Go Go.RowKit

theorem run_copy_rows {P : Program} (w : World) (dT sT ty elem : TypeId) (i : TypeInfo) (g o dLen dCap : Nat) (a : Addr) (sLen sCap m size : Nat) (cur : Array Value) (t : TypeId) (cs : List Value)
  (hu : P.underlying dT = some (.slice elem)) (hi : P.info? elem = some i) (hs : i.size = size) (hg : w.heap[g]? = some (.cells cur t (0, 0))) (hm : Nat.min sLen dLen = m) (hn : cs.length = m * size)
  (hsrc : ∀ j v, cs[j]? = some v → w.cell? (a.add j) = some v) (hfit : o + cs.length ≤ cur.size) (h1 : ∀ v ∈ cs, v.oneCell' = true) :
  (Builtin.copy_ #[dT, sT] ty #[.slice (some ⟨g, o, none⟩) dLen dCap, .slice (some a) sLen sCap]).run P w =
   .ok (goInt m) (w.setRow g (cur.toList.take o ++ cs ++ cur.toList.drop (o + cs.length)).toArray) := by
 subst hs
 have hl := run_firstCells_some (P := P) w i.size m a sLen sCap cs hn hsrc
 have hst := run_storeCells_at P g o t cs 0 cur w hg (by simpa using hfit) h1
 simp only [Nat.add_zero] at hst
 simp [Builtin.copy_, run_underlying hu, Builtin.lenOf, sizeOf, typeInfo, hi, hm, hl, hst]
theorem wpList_copy_rows {P : Program} {w : World} {ops : Array Oper} {rest : List Oper} {o : Oper} {a : Act} {Q : Exit → Act → World → Prop} (hgd : o.guard = none) (d s : Operand) (dT sT : TypeId)
  (ho : o.op = .call { callee := .builtin .copy, args := #[d, s], argTypes := #[dT, sT] }) (elem : TypeId) (i : TypeInfo) (size : Nat) (hu : P.underlying dT = some (.slice elem)) (hi : P.info? elem = some i) (hs : i.size = size)
  (g off dLen dCap : Nat) (ad : Addr) (sLen sCap m : Nat) (hd : a.eval d = .slice (some ⟨g, off, none⟩) dLen dCap) (hsv : a.eval s = .slice (some ad) sLen sCap)
  (cur : Array Value) (t : TypeId) (hg : w.heap[g]? = some (.cells cur t (0, 0))) (cs : List Value) (hm : Nat.min sLen dLen = m) (hn : cs.length = m * size)
  (hsrc : ∀ j v, cs[j]? = some v → w.cell? (ad.add j) = some v) (hfit : off + cs.length ≤ cur.size) (h1 : ∀ v ∈ cs, v.oneCell' = true)
  (h : wpList P ops Q rest (a.put o.dst (goInt m)) (w.setRow g (cur.toList.take off ++ cs ++ cur.toList.drop (off + cs.length)).toArray)) : wpList P ops Q (o :: rest) a w := by
 refine wpList_plain hgd fun K hK => ?_
 have hrun := run_copy_rows (P := P) w dT sT o.type elem i g off dLen dCap ad sLen sCap m size cur t cs hu hi hs hg hm hn hsrc hfit h1
 unfold Oper.wp
 simp [execOp, ho, resolve, invoke, builtin, hd, hsv, hrun, Result.andThen]
 exact hK _ _ (by simpa using h)

theorem close_own {e : TypeId} {w w1 : World} {B b g cap : Nat} {T : TypeId} {room : Int} {l : List Ms} (h : Bg T e 15 mc w B b room l (.slice (some ⟨g, 0, none⟩) l.length cap)) (hb : Below w.heap.size w w1) {i : Nat} (hi : i < l.length) {cur : Array Value} (hg : w.heap[g]? = some (.cells cur e (0, 0))) (q : Nat) :
  PutGave T e 15 mc w B b room (l.eraseIdx i) (.slice (some ⟨g, 0, none⟩) l.length cap) (((w1.drewN q).setRow g (cur.toList.take (i * 15) ++ (cellsOf mc l).drop ((i + 1) * 15) ++ cur.toList.drop (i * 15 + ((cellsOf mc l).drop ((i + 1) * 15)).length)).toArray).setCell ⟨b, 1, none⟩ (.slice (some ⟨g, 0, none⟩) (l.length - 1) cap)) := by
 have hgb : b ≠ g := fun e => h.off (by rw [e]; rfl)
 have hbl := h.lt
 have hgl := (h.row.lt g rfl).2
 obtain ⟨hlen, hh⟩ := h.row
 rcases hh with ⟨e0, h0⟩ | ⟨g', cap', cur', e0, hB, hgg, h1, h2, h3, h4⟩
 ·cases e0
 ·obtain ⟨rfl, rfl⟩ : g = g' ∧ cap = cap' := by simpa using e0
  obtain rfl : cur = cur' := by rw [hg] at hgg; simpa using hgg
  have hg1 : (w1.drewN q).heap[g]? = some (.cells cur e (0, 0)) := (hb.block g hgl).trans hg
  have hfit : l.length * 15 ≤ cap * 15 := Nat.mul_le_mul_right _ h1
  have hi15 : (i + 1) * 15 ≤ l.length * 15 := Nat.mul_le_mul_right _ hi
  have hc15 := cellsOf_len mc_len l
  have hnl : ((cellsOf mc l).drop ((i + 1) * 15)).length = l.length * 15 - (i + 1) * 15 := by rw [List.length_drop, hc15]
  have hrow := setRow_heap (w1.drewN q) g _ (cur.toList.take (i * 15) ++ (cellsOf mc l).drop ((i + 1) * 15) ++ cur.toList.drop (i * 15 + ((cellsOf mc l).drop ((i + 1) * 15)).length)).toArray _ _ hg1
  have hb1 : ((w1.drewN q).setRow g (cur.toList.take (i * 15) ++ (cellsOf mc l).drop ((i + 1) * 15) ++ cur.toList.drop (i * 15 + ((cellsOf mc l).drop ((i + 1) * 15)).length)).toArray).heap[b]? = some (.cells #[.int .i64 room, .slice (some ⟨g, 0, none⟩) l.length cap] T (0, 0)) := (setRow_other _ g b _ hgb).trans ((hb.block b hbl).trans h.blk)
  have hel : (l.eraseIdx i).length = l.length - 1 := List.length_eraseIdx_of_lt hi
  refine ⟨.slice (some ⟨g, 0, none⟩) (l.length - 1) cap, ⟨?_, ⟨by rw [cellsOf_len mc_len], .inr ⟨g, cap, _, by rw [hel], hB, (heap_setCell_other _ _ _ _ (by simp only; omega)).trans hrow, by rw [hel]; omega, h2, ?_, ?_⟩⟩, h.off, h.big⟩, ⟨hb.os, hb.tape, hb.output, by have := hb.size; simpa [World.setCell] using this, fun k hk k1 k2 => ?_⟩, fun k hk => .inl hk⟩
  ·rw [heap_setCell_same _ b 1 _ _ _ hb1]
   rfl
  ·simp only [List.size_toArray, List.length_append, List.length_take, Array.length_toList, List.length_drop, hnl]
   rw [Nat.add_mul] at hi15
   simp only [Nat.add_mul]
   omega
  ·rw [List.toList_toArray, hel]
   have e1 : cur.toList.take (i * 15) = (cellsOf mc l).take (i * 15) := by rw [← h4, List.take_take, Nat.min_eq_left (by omega)]
   have e2 : (cellsOf mc l).take (i * 15) ++ (cellsOf mc l).drop ((i + 1) * 15) = cellsOf mc (l.eraseIdx i) := by
    rw [cellsOf_take mc_len l i (by omega), cellsOf_drop mc_len l (i + 1) (by omega), ← cellsOf_append, List.eraseIdx_eq_take_drop_succ]
   rw [e1, e2]
   have : (cellsOf mc (l.eraseIdx i)).length = (l.length - 1) * 15 := by rw [cellsOf_len mc_len, hel]
   rw [← this, List.take_left']
   rfl
  ·exact (heap_setCell_other _ _ _ _ k1).trans ((setRow_other _ g k _ (fun e => k2 (by rw [e]; rfl))).trans (hb.block k hk))

end Go.Proofs.YtlfhkjjjocmpbaaGreatDoor.Mh

namespace Go.Proofs.YtlfhkjjjocmpbaaGreatDoor.Mh
open Go Go.RowKit

theorem nat_neg (k : Nat) : ¬ (k : Int) < 0 := by omega
set_option maxHeartbeats 600000 in
theorem close_none {w : World} {B b : Nat} {room : Int} {l : List Ms} {v : Value} (h : BgP w B b room l v) (line : Int) (hl : l.length ≤ 5000) (hp : fnd l line = none) :
  Calls Tryz.prog 65 #[.pointer (some ⟨b, 0, none⟩), .int .i64 line] w fun e w' => e = .returned (.int .i64 5) ∧ Below w.heap.size w w' := by
 have hbx := balloc w (.cells #[.int .i64 line] 3)
 have HP := placeL (h.below hbx) ⟨w.heap.size, 0, none⟩ line hl (by simp) (by simp)
 have hp' : l.findIdx? (isL line) = none := hp
 rw [hp'] at HP
 have HP := Lib.hid HP
 clear h hp hp'
 go_enter Tryz.func65, Tryz.ntmps65
 go_wp2_with fail
 refine (ofLine_any line _).mono ?_
 rintro e w1 ⟨rfl, rfl⟩
 go_wp2_with fail
 refine HP.out.mono ?_
 rintro e w1 ⟨rfl, hb1⟩
 simp only [oi]
 go_wp2
 go_ret
 exact ⟨rfl, bbox hb1⟩
set_option maxHeartbeats 600000 in
theorem close_no {w : World} {B b : Nat} {room : Int} {l : List Ms} {g cap : Nat} (h : BgP w B b room l (.slice (some ⟨g, 0, none⟩) l.length cap)) (line : Int) (hl : l.length ≤ 5000) {i : Nat} {x : Ms} (hp : fnd l line = some i) (hx : l[i]? = some x) (ht : x.os = false) :
  Calls Tryz.prog 65 #[.pointer (some ⟨b, 0, none⟩), .int .i64 line] w fun e w' => e = .returned (.int .i64 7) ∧ Below w.heap.size w w' := by
 have hbx := balloc w (.cells #[.int .i64 line] 3)
 have HP := placeL (h.below hbx) ⟨w.heap.size, 0, none⟩ line hl (by simp) (by simp)
 have hp' : l.findIdx? (isL line) = some i := hp
 rw [hp'] at HP
 have HP := Lib.hid HP
 have hi := (List.getElem?_eq_some_iff.1 hx).1
 have hn := nat_neg i
 have HR : Hid (∀ w1, Below w.heap.size w w1 → w1.cell? ⟨b, 1, none⟩ = some (.slice (some ⟨g, 0, none⟩) l.length cap) ∧ w1.cell? ⟨g, i * 15 + 14, none⟩ = some (.bool false)) := Lib.hid (fun w1 hb => by
  refine ⟨blk_cell (h.below hb).blk 1, ?_⟩
  have := ((h.below hb).at1 hx).row 14 _ rfl
  rw [this]
  exact congrArg (fun z => some (Value.bool z)) ht)
 clear h hp hp' hx ht
 go_enter Tryz.func65, Tryz.ntmps65
 go_wp2_with fail
 refine (ofLine_any line _).mono ?_
 rintro e w1 ⟨rfl, rfl⟩
 go_wp2_with fail
 refine HP.out.mono ?_
 rintro e w1 ⟨rfl, hb1⟩
 simp only [oi]
 obtain ⟨c1, c14⟩ := HR.out _ (bbox hb1)
 go_wp2
 go_ret
 exact ⟨rfl, bbox hb1⟩

set_option maxRecDepth 100000 in
set_option maxHeartbeats 1000000 in
theorem close_yes {w : World} {B b : Nat} {room : Int} {l : List Ms} {g cap : Nat} (h : BgP w B b room l (.slice (some ⟨g, 0, none⟩) l.length cap)) (line : Int) (hl : l.length ≤ 5000) {i : Nat} {x : Ms} (hp : fnd l line = some i) (hx : l[i]? = some x) (ht : x.os = true) :
  Calls Tryz.prog 65 #[.pointer (some ⟨b, 0, none⟩), .int .i64 line] w fun e w' => e = .returned (.int .i64 0) ∧ PutGave 151 117 15 mc w B b room (l.eraseIdx i) (.slice (some ⟨g, 0, none⟩) l.length cap) w' := by
 have hbx := balloc w (.cells #[.int .i64 line] 3)
 have HP := placeL (h.below hbx) ⟨w.heap.size, 0, none⟩ line hl (by simp) (by simp)
 have hp' : l.findIdx? (isL line) = some i := hp
 rw [hp'] at HP
 have HP := Lib.hid HP
 have hi := (List.getElem?_eq_some_iff.1 hx).1
 have hn := nat_neg i
 obtain ⟨i0, hi0, hz0, hz1, hz2⟩ := info_parts A34
 have HR : Hid (∀ w1, Below w.heap.size w w1 → w1.cell? ⟨b, 1, none⟩ = some (.slice (some ⟨g, 0, none⟩) l.length cap) ∧ w1.frozen? ⟨b, 1, none⟩ = false ∧ w1.cell? ⟨g, i * 15 + 14, none⟩ = some (.bool true)) := Lib.hid (fun w1 hb => by
  refine ⟨blk_cell (h.below hb).blk 1, blk_free (h.below hb).blk 1, ?_⟩
  have := ((h.below hb).at1 hx).row 14 _ rfl
  rw [this]
  exact congrArg (fun z => some (Value.bool z)) ht)
 have hgb : b ≠ g := fun e => h.off (by rw [e]; rfl)
 have hgl := (h.row.lt g rfl).2
 have hbl := h.lt
 obtain ⟨hlen, hh⟩ := h.row
 obtain ⟨cur, hg, hnc, hcm, hcs, hcv⟩ : ∃ cur : Array Value, w.heap[g]? = some (.cells cur 117 (0, 0)) ∧ l.length ≤ cap ∧ cap ≤ maxLen ∧ cur.size = cap * 15 ∧ cur.toList.take (l.length * 15) = cellsOf mc l := by
  rcases hh with ⟨e0, h0⟩ | ⟨g', cap', cur, e0, hB, hgg, h1, h2, h3, h4⟩
  ·cases e0
  ·obtain ⟨rfl, rfl⟩ : g = g' ∧ cap = cap' := by simpa using e0
   exact ⟨cur, hgg, h1, h2, h3, h4⟩
 clear hh
 have HE := Lib.hid (fun w1 (hb : Below w.heap.size w w1) => close_own h hb hi hg 1)
 obtain ⟨cs, hcsd⟩ : ∃ cs, cs = (cellsOf mc l).drop ((i + 1) * 15) := ⟨_, rfl⟩
 rw [← hcsd] at HE
 obtain ⟨m, hm⟩ : ∃ m, m = l.length - (i + 1) := ⟨_, rfl⟩
 have hnl : cs.length = m * 15 := by
  rw [hcsd, List.length_drop, hlen, hm, Nat.sub_mul]
 obtain ⟨D, hD, hsrc⟩ : ∃ D : Addr, (if cap = i + 1 then some (⟨g, 0, none⟩ : Addr) else some ⟨g, (i + 1) * 15, none⟩) = some D ∧ Hid (∀ w1, Below w.heap.size w w1 → ∀ t u, cs[t]? = some u → w1.cell? (D.add t) = some u) := by
  by_cases hc : cap = i + 1
  ·refine ⟨⟨g, 0, none⟩, by simp [hc], Lib.hid fun w1 _ t u hu => ?_⟩
   have h0 : cs.length = 0 := by rw [hnl]; omega
   rw [List.length_eq_zero_iff.1 h0] at hu
   simp at hu
  ·refine ⟨⟨g, (i + 1) * 15, none⟩, by simp [hc], Lib.hid fun w1 hb t u hu => ?_⟩
   have ht' : t < m * 15 := by
    have := (List.getElem?_eq_some_iff.1 hu).1
    omega
   have hmi : (i + 1) * 15 + m * 15 ≤ l.length * 15 := by rw [← Nat.add_mul]; exact Nat.mul_le_mul_right _ (by omega)
   rw [Addr.add_lit]
   refine (hb.cell (p := ⟨g, (i + 1) * 15 + t, none⟩) hgl).trans ?_
   rw [blk_cell hg]
   rw [hcsd, List.getElem?_drop, ← hcv, List.getElem?_take, if_pos (by omega)] at hu
   simpa using hu
 have H1 : Hid (∀ u ∈ cs, u.oneCell' = true) := Lib.hid (by
  intro u hu
  rw [hcsd] at hu
  exact mcs_one l u (List.mem_of_mem_drop hu))
 have HG := Lib.hid (fun w1 (hb : Below w.heap.size w w1) => (hb.block g hgl).trans hg)
 have HF : Hid (i * 15 + cs.length ≤ cur.size) := by
  show i * 15 + cs.length ≤ cur.size
  rw [hnl, hcs, ← Nat.add_mul]
  exact Nat.mul_le_mul_right _ (by omega)
 have HN := Lib.hid hnl
 have HM := Lib.hid (show Nat.min (l.length - (i + 1)) (l.length - i) = m by rw [hm]; exact Nat.min_eq_left (by omega))
 have k1 : IntKind.i64.wrap ((i : Int) + 1) = (i : Int) + 1 := IntWalk.i64_in _ (by omega)
 have k2 : ((i : Int) + 1).toNat = i + 1 := by omega
 have k3 : (0 : Int) ≤ (i : Int) + 1 := by omega
 have k4 : ¬ cap = i := by omega
 have k5 : i ≤ l.length := by omega
 have k6 : i + 1 ≤ l.length := by omega
 have k7 : IntKind.i64.wrap ((i : Int) + (m : Int)) = (i : Int) + (m : Int) := IntWalk.i64_in _ (by omega)
 have k8 : ((i : Int) + (m : Int)).toNat = l.length - 1 := by omega
 have k9 : (0 : Int) ≤ (i : Int) + (m : Int) := by omega
 have k10 : l.length - 1 ≤ cap := by omega
 have k11 : i + 1 ≤ cap := by omega
 have k12 : (i : Int) + 1 ≤ (l.length : Int) := by omega
 have k13 : (i : Int) + (m : Int) ≤ (cap : Int) := by omega
 have hm5 : m ≤ 5000 := by omega
 clear h hp hp' hx ht hg hcsd hlen hcs hcv hnl hm
 go_enter Tryz.func65, Tryz.ntmps65
 go_wp2_with fail
 refine (ofLine_any line _).mono ?_
 rintro e w1 ⟨rfl, rfl⟩
 go_wp2_with fail
 refine HP.out.mono ?_
 rintro e w1 ⟨rfl, hb1⟩
 simp only [oi]
 have hb2 := bbox hb1
 obtain ⟨c1, f1, c14⟩ := HR.out _ hb2
 clear hb1
 go_wp2
 go_still_tail 13, (by kernel_rfl)
 change wpList _ _ _ _ _ w1.drew
 have hgd : w1.drew.heap[g]? = some (.cells cur 117 (0, 0)) := by rw [heap_drew]; exact HG.out _ hb2
 have HGD := Lib.hid hgd
 have HC1 : Hid (∀ cs', (w1.drew.setRow g cs').cell? ⟨b, 1, none⟩ = some (.slice (some ⟨g, 0, none⟩) l.length cap) ∧ (w1.drew.setRow g cs').frozen? ⟨b, 1, none⟩ = false) := Lib.hid (fun cs' => ⟨(World.cell?_of_block (a := ⟨b, 1, none⟩) (setRow_other w1.drew g b cs' hgb)).trans c1, (World.frozen?_of_block (a := ⟨b, 1, none⟩) (setRow_other w1.drew g b cs' hgb)).trans f1⟩)
 clear hgd
 refine wpList_copy_rows (o := ⟨some 37, _, _, _, _, _⟩) rfl (.tmp 29) (.tmp 36) 98 98 rfl 117 i0 15 Tryz.underlying98 hi0 hz1 g (i * 15) (l.length - i) (cap - i) D (l.length - (i + 1)) (cap - (i + 1)) m rfl rfl cur 117 HGD.out cs HM.out HN.out (fun t u hu => hsrc.out _ hb2 t u hu) HF.out H1.out ?_
 obtain ⟨c2, f2⟩ := HC1.out (cur.toList.take (i * 15) ++ cs ++ cur.toList.drop (i * 15 + cs.length)).toArray
 clear c1 f1 c14
 obtain ⟨w5, hw5⟩ : ∃ w5, w5 = w1.drew.setRow g (cur.toList.take (i * 15) ++ cs ++ cur.toList.drop (i * 15 + cs.length)).toArray := ⟨_, rfl⟩
 have R : Hid (PutGave 151 117 15 mc w B b room (l.eraseIdx i) (.slice (some ⟨g, 0, none⟩) l.length cap) (w5.setCell ⟨b, 1, none⟩ (.slice (some ⟨g, 0, none⟩) (l.length - 1) cap))) := by
  rw [hw5]
  exact HE.out _ hb2
 rw [← hw5] at c2 f2 ⊢
 clear hw5 HE HC1 HGD
 go_wp2
 go_ret
 exact ⟨rfl, R.out⟩

theorem close_any {w : World} {B b : Nat} {room : Int} {l : List Ms} {v : Value} (h : BgP w B b room l v) (line : Int) (hl : l.length ≤ 5000) :
  Calls Tryz.prog 65 #[.pointer (some ⟨b, 0, none⟩), .int .i64 line] w (GaveP w B b room v (closeP l line)) := by
 rcases hp : fnd l line with _ | i
 ·rw [closeP_none hp]
  exact (close_none h line hl hp).mono fun e w' ⟨h1, h2⟩ => ⟨h1, gave_same h h2⟩
 ·obtain ⟨x, hx, _, hi⟩ := fnd_some hp
  obtain ⟨g, cap, rfl, _⟩ := h.one hx
  rcases Bool.eq_false_or_eq_true x.os with ht | ht
  ·rw [closeP_yes hp hx ht]
   exact (close_yes h line hl hp hx ht).mono fun e w' ⟨h1, h2⟩ => ⟨h1, h2⟩
  ·rw [closeP_no hp hx ht]
   exact (close_no h line hl hp hx ht).mono fun e w' ⟨h1, h2⟩ => ⟨h1, gave_same h h2⟩
end Go.Proofs.YtlfhkjjjocmpbaaGreatDoor.Mh
