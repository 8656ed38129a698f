/-
  A buffer of lines that were evicted, in plain words: where a line is, what each call answers and makes of the entries, and what holds of them all. No program is spoken of here.
-/
import Derived.Test.YtlhecliamhjobaaRows
import Derived.WalkKit
import Derived.Lib.Hide
namespace Go.Proofs.Ytlhecliamhjobaa
open Go Go.RowKit

/-- A line's words. -/
structure Wd where
  w0 : Int
  w1 : Int
  w2 : Int
  w3 : Int
  w4 : Int
  w5 : Int
  w6 : Int
  w7 : Int
/-- An entry. -/
structure En where
  ln : Int
  wd : Wd
  lv : Bool
/-- An operation. -/
structure Wo where
  k : Int
  ln : Int
  wd : Wd
def d0 : Wd := ⟨0, 0, 0, 0, 0, 0, 0, 0⟩
def m0 : En := ⟨0, d0, false⟩
abbrev dcells (d : Wd) : Array Value := #[.int .i64 d.w0, .int .i64 d.w1, .int .i64 d.w2, .int .i64 d.w3, .int .i64 d.w4, .int .i64 d.w5, .int .i64 d.w6, .int .i64 d.w7]
abbrev mcells (x : En) : Array Value := #[.int .i64 x.ln, .int .i64 x.wd.w0, .int .i64 x.wd.w1, .int .i64 x.wd.w2, .int .i64 x.wd.w3, .int .i64 x.wd.w4, .int .i64 x.wd.w5, .int .i64 x.wd.w6, .int .i64 x.wd.w7, .bool x.lv]
abbrev ocells (x : Wo) : Array Value := #[.int .i64 x.k, .int .i64 x.ln, .int .i64 x.wd.w0, .int .i64 x.wd.w1, .int .i64 x.wd.w2, .int .i64 x.wd.w3, .int .i64 x.wd.w4, .int .i64 x.wd.w5, .int .i64 x.wd.w6, .int .i64 x.wd.w7]
def mc (x : En) : List Value := (mcells x).toList
theorem mc_len (x : En) : (mc x).length = 10 := rfl
def oc (x : Wo) : List Value := (ocells x).toList
theorem oc_len (x : Wo) : (oc x).length = 10 := rfl

def isL (line : Int) (x : En) : Bool := x.ln == line
def fnd (l : List En) (line : Int) : Option Nat := l.findIdx? (isL line)
def oi : Option Nat → Int
  | some k => k
  | none => -1
def newE (line : Int) (d : Wd) : En := ⟨line, d, true⟩
def gone (x : En) : En := { x with lv := false }

def putP (room : Int) (l : List En) (line : Int) (d : Wd) : Int × List En :=
  if (fnd l line).isSome = true then (6, l) else if (l.length : Int) = room then (4, l) else (0, l ++ [newE line d])
def ansP (f : En → En) (l : List En) (line : Int) : (Wd × Int) × List En := match fnd l line with
  | none => ((d0, 5), l)
  | some i => match l[i]? with
    | none => ((d0, 5), l)
    | some x => if x.lv = true then ((x.wd, 0), l.set i (f x)) else ((d0, 7), l)
def dropP (l : List En) (line : Int) : Int × List En := match fnd l line with
  | none => (5, l)
  | some i => (0, l.eraseIdx i)
def getP (l : List En) (line : Int) : En × Bool := match fnd l line with
  | none => (m0, false)
  | some i => match l[i]? with
    | none => (m0, false)
    | some x => (x, true)
def doP (room : Int) (l : List En) (x : Wo) : (Wd × Int) × List En :=
  if x.k = 0 then ((d0, (putP room l x.ln x.wd).1), (putP room l x.ln x.wd).2)
  else if x.k = 1 then ansP id l x.ln
  else if x.k = 2 then ansP gone l x.ln
  else ((d0, (dropP l x.ln).1), (dropP l x.ln).2)

/-! Where a line is. -/
theorem fnd_some {l : List En} {line : Int} {i : Nat} (h : fnd l line = some i) : ∃ x, l[i]? = some x ∧ x.ln = line ∧ i < l.length := by
  obtain ⟨hi, hx, _⟩ := List.findIdx?_eq_some_iff_getElem.1 h
  exact ⟨_, List.getElem?_eq_getElem hi, by simpa [isL] using hx, hi⟩
theorem fnd_none {l : List En} {line : Int} (h : fnd l line = none) : ∀ x ∈ l, x.ln ≠ line := by
  intro x hx
  have := List.findIdx?_eq_none_iff.1 h x hx
  simpa [isL] using this
theorem fnd_at {l : List En} (hn : (l.map En.ln).Nodup) {i : Nat} {x : En} (hx : l[i]? = some x) : fnd l x.ln = some i := by
  obtain ⟨hi, rfl⟩ := List.getElem?_eq_some_iff.1 hx
  refine List.findIdx?_eq_some_iff_getElem.2 ⟨hi, by simp [isL], fun j hj => ?_⟩
  have := (List.nodup_iff_pairwise_ne.1 hn)
  have h2 := List.pairwise_iff_getElem.1 this j i (by simp; omega) (by simpa using hi) hj
  simpa [isL] using h2
theorem find_none {p : En → Bool} {l : List En} (h : ∀ (j : Nat) (x : En), l[j]? = some x → p x = false) : l.findIdx? p = none := by
  rw [List.findIdx?_eq_none_iff]
  intro x hx
  obtain ⟨j, hj, rfl⟩ := List.getElem_of_mem hx
  exact h j _ (List.getElem?_eq_getElem hj)
theorem find_some {p : En → Bool} {l : List En} {k : Nat} {x : En} (hk : l[k]? = some x) (hx : p x = true) (h : ∀ (j : Nat) (y : En), j < k → l[j]? = some y → p y = false) : l.findIdx? p = some k := by
  obtain ⟨hl, rfl⟩ := List.getElem?_eq_some_iff.1 hk
  rw [List.findIdx?_eq_some_iff_getElem]
  refine ⟨hl, hx, fun j hj => ?_⟩
  have := h j _ hj (List.getElem?_eq_getElem (by omega))
  simpa using this

/-! What holds of them all. -/
structure Good (room : Int) (l : List En) : Prop where
  r1 : 1 ≤ room
  r2 : room ≤ 8
  len : (l.length : Int) ≤ room
  uq : (l.map En.ln).Nodup
theorem Good.short {room : Int} {l : List En} (h : Good room l) : l.length ≤ 8 := by have := h.len; have := h.r2; omega
theorem Good.new {room : Int} (h1 : 1 ≤ room) (h2 : room ≤ 8) : Good room [] := ⟨h1, h2, by simp; omega, by simp⟩
theorem Good.set {room : Int} {l : List En} (h : Good room l) {i : Nat} {x y : En} (hx : l[i]? = some x) (hl : y.ln = x.ln) : Good room (l.set i y) := by
  obtain ⟨hi, rfl⟩ := List.getElem?_eq_some_iff.1 hx
  refine ⟨h.r1, h.r2, by rw [List.length_set]; exact h.len, ?_⟩
  have e : (l.set i y).map En.ln = l.map En.ln := by
    rw [List.map_set, hl]
    have : (List.map En.ln l).set i l[i].ln = (List.map En.ln l).set i ((List.map En.ln l)[i]'(by simpa using hi)) := by simp
    rw [this, List.set_getElem_self]
  rw [e]; exact h.uq
theorem set_same {l : List En} {i : Nat} {x : En} (hx : l[i]? = some x) : l.set i x = l := by
  obtain ⟨hi, rfl⟩ := List.getElem?_eq_some_iff.1 hx
  exact List.set_getElem_self hi
theorem putP_twice {room : Int} {l : List En} {line : Int} (d : Wd) {i : Nat} (hp : fnd l line = some i) : putP room l line d = (6, l) := by unfold putP; rw [hp]; rfl
theorem putP_full {room : Int} {l : List En} {line : Int} (d : Wd) (hp : fnd l line = none) (hl : (l.length : Int) = room) : putP room l line d = (4, l) := by unfold putP; rw [hp, if_neg (by simp), if_pos hl]
theorem putP_yes {room : Int} {l : List En} {line : Int} (d : Wd) (hp : fnd l line = none) (hl : ¬ (l.length : Int) = room) : putP room l line d = (0, l ++ [newE line d]) := by unfold putP; rw [hp, if_neg (by simp), if_neg hl]
theorem ansP_none (f : En → En) {l : List En} {line : Int} (h : fnd l line = none) : ansP f l line = ((d0, 5), l) := by unfold ansP; rw [h]
theorem ansP_no (f : En → En) {l : List En} {line : Int} {i : Nat} {x : En} (h : fnd l line = some i) (hx : l[i]? = some x) (ht : x.lv = false) : ansP f l line = ((d0, 7), l) := by unfold ansP; rw [h]; simp only [hx]; rw [if_neg (by simp [ht])]
theorem ansP_yes (f : En → En) {l : List En} {line : Int} {i : Nat} {x : En} (h : fnd l line = some i) (hx : l[i]? = some x) (ht : x.lv = true) : ansP f l line = ((x.wd, 0), l.set i (f x)) := by unfold ansP; rw [h]; simp only [hx]; rw [if_pos ht]
theorem dropP_none {l : List En} {line : Int} (h : fnd l line = none) : dropP l line = (5, l) := by unfold dropP; rw [h]
theorem dropP_yes {l : List En} {line : Int} {i : Nat} (h : fnd l line = some i) : dropP l line = (0, l.eraseIdx i) := by unfold dropP; rw [h]
theorem getP_none {l : List En} {line : Int} (h : fnd l line = none) : getP l line = (m0, false) := by unfold getP; rw [h]
theorem getP_yes {l : List En} {line : Int} {i : Nat} {x : En} (h : fnd l line = some i) (hx : l[i]? = some x) : getP l line = (x, true) := by unfold getP; rw [h]; simp only [hx]
theorem Good.put {room : Int} {l : List En} (h : Good room l) (line : Int) (d : Wd) : Good room (putP room l line d).2 := by
  rcases hp : fnd l line with _ | i
  · by_cases hl : (l.length : Int) = room
    · rw [putP_full d hp hl]; exact h
    · rw [putP_yes d hp hl]
      have hle := h.len
      refine ⟨h.r1, h.r2, by simp; omega, ?_⟩
      rw [List.map_append, List.nodup_append]
      refine ⟨h.uq, by simp, fun a ha b hb => ?_⟩
      obtain ⟨x, hx, rfl⟩ := List.mem_map.1 ha
      have hb' : b = line := by simpa [newE] using hb
      rw [hb']
      exact fnd_none hp x hx
  · rw [putP_twice d hp]; exact h
theorem Good.ans {room : Int} {l : List En} (h : Good room l) (f : En → En) (hf : ∀ x, (f x).ln = x.ln) (line : Int) : Good room (ansP f l line).2 := by
  rcases hp : fnd l line with _ | i
  · rw [ansP_none f hp]; exact h
  · obtain ⟨x, hx, _, _⟩ := fnd_some hp
    rcases Bool.eq_false_or_eq_true x.lv with ht | ht
    · rw [ansP_yes f hp hx ht]; exact h.set hx (hf x)
    · rw [ansP_no f hp hx ht]; exact h
theorem Good.drop {room : Int} {l : List En} (h : Good room l) (line : Int) : Good room (dropP l line).2 := by
  rcases hp : fnd l line with _ | i
  · rw [dropP_none hp]; exact h
  · rw [dropP_yes hp]
    have hs := List.eraseIdx_sublist l i
    have hle := h.len
    have := hs.length_le
    exact ⟨h.r1, h.r2, by show ((l.eraseIdx i).length : Int) ≤ room; omega, h.uq.sublist (hs.map _)⟩
theorem Good.doP {room : Int} {l : List En} (h : Good room l) (x : Wo) : Good room (doP room l x).2 := by
  unfold Go.Proofs.Ytlhecliamhjobaa.doP
  repeat' split
  · exact h.put _ _
  · exact h.ans id (fun _ => rfl) _
  · exact h.ans gone (fun _ => rfl) _
  · exact h.drop _

end Go.Proofs.Ytlhecliamhjobaa
