/-
  A file of misses in plain words: where a line is, what each call answers and makes of the misses, and what holds of them all. No program is spoken of here.
-/
import Derived.Test.YtcfcgejeiihgnaaRows
import Derived.WalkKit
import Derived.Lib.Hide
namespace Go.Proofs.Ytcfcgejeiihgnaa
open Go Go.RowKit

/-- A line's words. -/
structure Wd where
  w0 : Int
  w1 : Int
  w2 : Int
  w3 : Int
  w4 : Int
  w5 : Int
  w6 : Int
  w7 : Int
/-- A miss. -/
structure Ms where
  ln : Int
  kd : Int
  nd : Int
  gt : Int
  ow : Int
  wd : Wd
  gr : Bool
  os : Bool
/-- An operation. -/
structure Mo where
  k : Int
  ln : Int
  n : Int
  ow : Int
  wd : Wd
def d0 : Wd := ⟨0, 0, 0, 0, 0, 0, 0, 0⟩
def m0 : Ms := ⟨0, 0, 0, 0, 0, d0, false, false⟩
abbrev dcells (d : Wd) : Array Value := #[.int .i64 d.w0, .int .i64 d.w1, .int .i64 d.w2, .int .i64 d.w3, .int .i64 d.w4, .int .i64 d.w5, .int .i64 d.w6, .int .i64 d.w7]
abbrev mcells (x : Ms) : Array Value := #[.int .i64 x.ln, .int .i64 x.kd, .int .i64 x.nd, .int .i64 x.gt, .int .i64 x.ow, .int .i64 x.wd.w0, .int .i64 x.wd.w1, .int .i64 x.wd.w2, .int .i64 x.wd.w3, .int .i64 x.wd.w4, .int .i64 x.wd.w5, .int .i64 x.wd.w6, .int .i64 x.wd.w7, .bool x.gr, .bool x.os]
abbrev ocells (x : Mo) : Array Value := #[.int .i64 x.k, .int .i64 x.ln, .int .i64 x.n, .int .i64 x.ow, .int .i64 x.wd.w0, .int .i64 x.wd.w1, .int .i64 x.wd.w2, .int .i64 x.wd.w3, .int .i64 x.wd.w4, .int .i64 x.wd.w5, .int .i64 x.wd.w6, .int .i64 x.wd.w7]
def mc (x : Ms) : List Value := (mcells x).toList
theorem mc_len (x : Ms) : (mc x).length = 15 := rfl
def oc (x : Mo) : List Value := (ocells x).toList
theorem oc_len (x : Mo) : (oc x).length = 12 := rfl

def isL (line : Int) (x : Ms) : Bool := x.ln == line
def fnd (l : List Ms) (line : Int) : Option Nat := l.findIdx? (isL line)
def oi : Option Nat → Int
  | some k => k
  | none => -1
/-- Is it known how many acks it needs? Came all? May it have a state, and so many acks with it? -/
def knw (x : Ms) : Bool := x.nd != -1
def came (x : Ms) : Bool := knw x && x.gt == x.nd
def tkes (x : Ms) (acks own : Int) : Bool :=
  if (knw x || decide (acks < x.gt)) = true then false else if (own == 4) = true then x.kd == 2 else if (own == 1 || own == 2) = true then x.kd == 1 && acks == 0 else false
def newM (line kind : Int) : Ms := ⟨line, kind, -1, 0, 0, d0, false, false⟩

def openP (room : Int) (l : List Ms) (line kind : Int) : Int × List Ms :=
  if (kind != 1 && kind != 2) = true then (1, l) else if (fnd l line).isSome = true then (6, l) else if (l.length : Int) = room then (4, l) else (0, l ++ [newM line kind])
def chg (l : List Ms) (line : Int) (f : Ms → Option Ms) : Int × List Ms := match fnd l line with
  | none => (5, l)
  | some i => match (l[i]?).bind f with
    | none => (7, l)
    | some y => (0, l.set i y)
def dataY (acks own : Int) (d : Wd) (x : Ms) : Ms := { x with nd := acks, ow := own, wd := d }
def grantY (acks : Int) (x : Ms) : Ms := { x with nd := acks, ow := 4, gr := true }
def ackY (x : Ms) : Ms := { x with gt := x.gt + 1 }
def owesY (x : Ms) : Ms := { x with os := true }
def dataF (acks own : Int) (d : Wd) (x : Ms) : Option Ms := if tkes x acks own = true then some (dataY acks own d x) else none
def grantF (acks : Int) (x : Ms) : Option Ms := if tkes x acks 4 = true then some (grantY acks x) else none
def ackF (x : Ms) : Option Ms := if (x.kd == 1 || came x) = true then none else some (ackY x)
def oweP (l : List Ms) (line : Int) : (Ms × Bool) × List Ms := match fnd l line with
  | none => ((m0, false), l)
  | some i => match l[i]? with
    | none => ((m0, false), l)
    | some x => if (x.os || !came x) = true then ((m0, false), l) else ((x, true), l.set i (owesY x))
def closeP (l : List Ms) (line : Int) : Int × List Ms := match fnd l line with
  | none => (5, l)
  | some i => match l[i]? with
    | none => (5, l)
    | some x => if x.os = true then (0, l.eraseIdx i) else (7, l)
def getP (l : List Ms) (line : Int) : Ms × Bool := match fnd l line with
  | none => (m0, false)
  | some i => match l[i]? with
    | none => (m0, false)
    | some x => (x, true)
def owingP (l : List Ms) : Int × Bool := match l.findIdx? Ms.os with
  | none => (0, false)
  | some i => match l[i]? with
    | none => (0, false)
    | some x => (x.ln, true)
def doP (room : Int) (l : List Ms) (x : Mo) : (Ms × Bool × Int) × List Ms :=
  if x.k = 0 then ((m0, false, (openP room l x.ln x.n).1), (openP room l x.ln x.n).2)
  else if x.k = 1 then ((m0, false, (chg l x.ln (dataF x.n x.ow x.wd)).1), (chg l x.ln (dataF x.n x.ow x.wd)).2)
  else if x.k = 2 then ((m0, false, (chg l x.ln (grantF x.n)).1), (chg l x.ln (grantF x.n)).2)
  else if x.k = 3 then ((m0, false, (chg l x.ln ackF).1), (chg l x.ln ackF).2)
  else if x.k = 4 then (((oweP l x.ln).1.1, (oweP l x.ln).1.2, 0), (oweP l x.ln).2)
  else ((m0, false, (closeP l x.ln).1), (closeP l x.ln).2)

/-! Where a line is. -/
theorem fnd_some {l : List Ms} {line : Int} {i : Nat} (h : fnd l line = some i) : ∃ x, l[i]? = some x ∧ x.ln = line ∧ i < l.length := by
  obtain ⟨hi, hx, _⟩ := List.findIdx?_eq_some_iff_getElem.1 h
  exact ⟨_, List.getElem?_eq_getElem hi, by simpa [isL] using hx, hi⟩
theorem fnd_none {l : List Ms} {line : Int} (h : fnd l line = none) : ∀ x ∈ l, x.ln ≠ line := by
  intro x hx
  have := List.findIdx?_eq_none_iff.1 h x hx
  simpa [isL] using this
theorem fnd_at {l : List Ms} (hn : (l.map Ms.ln).Nodup) {i : Nat} {x : Ms} (hx : l[i]? = some x) : fnd l x.ln = some i := by
  obtain ⟨hi, rfl⟩ := List.getElem?_eq_some_iff.1 hx
  refine List.findIdx?_eq_some_iff_getElem.2 ⟨hi, by simp [isL], fun j hj => ?_⟩
  have := (List.nodup_iff_pairwise_ne.1 hn)
  have h2 := List.pairwise_iff_getElem.1 this j i (by simp; omega) (by simpa using hi) hj
  simpa [isL] using h2
theorem find_none {p : Ms → Bool} {l : List Ms} (h : ∀ (j : Nat) (x : Ms), l[j]? = some x → p x = false) : l.findIdx? p = none := by
  rw [List.findIdx?_eq_none_iff]
  intro x hx
  obtain ⟨j, hj, rfl⟩ := List.getElem_of_mem hx
  exact h j _ (List.getElem?_eq_getElem hj)
theorem find_some {p : Ms → Bool} {l : List Ms} {k : Nat} {x : Ms} (hk : l[k]? = some x) (hx : p x = true) (h : ∀ (j : Nat) (y : Ms), j < k → l[j]? = some y → p y = false) : l.findIdx? p = some k := by
  obtain ⟨hl, rfl⟩ := List.getElem?_eq_some_iff.1 hk
  rw [List.findIdx?_eq_some_iff_getElem]
  refine ⟨hl, hx, fun j hj => ?_⟩
  have := h j _ hj (List.getElem?_eq_getElem (by omega))
  simpa using this

/-! What holds of them all, behind so many calls. -/
structure Ok (k : Int) (x : Ms) : Prop where
  kd : x.kd = 1 ∨ x.kd = 2
  nd : -1 ≤ x.nd
  g0 : 0 ≤ x.gt
  gk : x.gt ≤ k
  gn : x.nd ≠ -1 → x.gt ≤ x.nd
  os : x.os = true → came x = true
structure Good (room k : Int) (l : List Ms) : Prop where
  r1 : 1 ≤ room
  r2 : room ≤ 8
  len : (l.length : Int) ≤ room
  uq : (l.map Ms.ln).Nodup
  each : ∀ x ∈ l, Ok k x
theorem Ok.more {k k' : Int} {x : Ms} (h : Ok k x) (hk : k ≤ k') : Ok k' x := ⟨h.kd, h.nd, h.g0, Int.le_trans h.gk hk, h.gn, h.os⟩
theorem Good.more {room k k' : Int} {l : List Ms} (h : Good room k l) (hk : k ≤ k') : Good room k' l := ⟨h.r1, h.r2, h.len, h.uq, fun x hx => (h.each x hx).more hk⟩
theorem Good.at {room k : Int} {l : List Ms} (h : Good room k l) {i : Nat} {x : Ms} (hx : l[i]? = some x) : Ok k x := h.each x (List.mem_of_getElem? hx)
theorem Good.new {room k : Int} (h1 : 1 ≤ room) (h2 : room ≤ 8) : Good room k [] := ⟨h1, h2, by simp; omega, by simp, fun x hx => by cases hx⟩
theorem Good.set {room k : Int} {l : List Ms} (h : Good room k l) {i : Nat} {x y : Ms} (hx : l[i]? = some x) (hl : y.ln = x.ln) (hy : Ok (k + 1) y) : Good room (k + 1) (l.set i y) := by
  obtain ⟨hi, rfl⟩ := List.getElem?_eq_some_iff.1 hx
  refine ⟨h.r1, h.r2, by rw [List.length_set]; exact h.len, ?_, fun z hz => ?_⟩
  · have e : (l.set i y).map Ms.ln = l.map Ms.ln := by
      rw [List.map_set, hl]
      have : (List.map Ms.ln l).set i l[i].ln = (List.map Ms.ln l).set i ((List.map Ms.ln l)[i]'(by simpa using hi)) := by simp
      rw [this, List.set_getElem_self]
    rw [e]; exact h.uq
  · rcases List.mem_or_eq_of_mem_set hz with h1 | rfl
    · exact (h.each z h1).more (by omega)
    · exact hy
theorem tkes_iff {x : Ms} {acks own : Int} (h : tkes x acks own = true) : knw x = false ∧ x.gt ≤ acks ∧ (own = 4 ∧ x.kd = 2 ∨ (own = 1 ∨ own = 2) ∧ x.kd = 1 ∧ acks = 0) := by
  unfold tkes at h
  split at h
  · cases h
  · rename_i h1
    simp at h1
    obtain ⟨h1, h2⟩ := h1
    refine ⟨by simpa using h1, by omega, ?_⟩
    split at h
    · rename_i h3
      exact .inl ⟨by simpa using h3, by simpa using h⟩
    · split at h
      · rename_i h4
        simp at h h4
        exact .inr ⟨h4, h.1, h.2⟩
      · cases h
theorem Ok.data {k : Int} {x : Ms} (h : Ok k x) {acks own : Int} {d : Wd} (ht : tkes x acks own = true) : Ok (k + 1) (dataY acks own d x) := by
  obtain ⟨h1, h2, h3⟩ := tkes_iff ht
  have h0 := h.g0
  have hos : x.os = false := by
    rcases Bool.eq_false_or_eq_true x.os with e | e
    · have := h.os e
      simp [came, h1] at this
    · exact e
  exact ⟨h.kd, by simp only [dataY]; omega, h.g0, by have := h.gk; simp only [dataY]; omega, fun _ => h2, fun e => by simp [dataY, hos] at e⟩
theorem Ok.grant {k : Int} {x : Ms} (h : Ok k x) {acks : Int} (ht : tkes x acks 4 = true) : Ok (k + 1) (grantY acks x) := by
  have := h.data (d := d0) ht
  exact ⟨this.kd, this.nd, this.g0, this.gk, this.gn, this.os⟩
theorem Ok.ack {k : Int} {x : Ms} (h : Ok k x) (ht : (x.kd == 1 || came x) = false) : Ok (k + 1) (ackY x) := by
  simp at ht
  have hos : x.os = false := by
    rcases Bool.eq_false_or_eq_true x.os with e | e
    · have := h.os e
      simp [ht.2] at this
    · exact e
  have h0 := h.g0
  have h1 := h.gk
  have h2 := h.gn
  have h3 := ht.2
  refine ⟨h.kd, h.nd, by simp only [ackY]; omega, by simp only [ackY]; omega, fun e => ?_, fun e => by simp [ackY, hos] at e⟩
  have h4 := h2 e
  have h5 : ¬ x.gt = x.nd := by
    intro e2
    have e' : ¬ x.nd = -1 := e
    simp [came, knw, e2, e'] at h3
  show x.gt + 1 ≤ x.nd
  omega
theorem chg_none {l : List Ms} {line : Int} (f : Ms → Option Ms) (h : fnd l line = none) : chg l line f = (5, l) := by unfold chg; rw [h]
theorem chg_no {l : List Ms} {line : Int} {f : Ms → Option Ms} {i : Nat} {x : Ms} (h : fnd l line = some i) (hx : l[i]? = some x) (hf : f x = none) : chg l line f = (7, l) := by
  unfold chg; rw [h]; simp only [hx, Option.bind, hf]
theorem chg_yes {l : List Ms} {line : Int} {f : Ms → Option Ms} {i : Nat} {x y : Ms} (h : fnd l line = some i) (hx : l[i]? = some x) (hf : f x = some y) : chg l line f = (0, l.set i y) := by
  unfold chg; rw [h]; simp only [hx, Option.bind, hf]
theorem dataF_no {acks own : Int} (d : Wd) {x : Ms} (h : tkes x acks own = false) : dataF acks own d x = none := by unfold dataF; rw [if_neg (by simp [h])]
theorem dataF_yes {acks own : Int} (d : Wd) {x : Ms} (h : tkes x acks own = true) : dataF acks own d x = some (dataY acks own d x) := by unfold dataF; rw [if_pos h]
theorem grantF_no {acks : Int} {x : Ms} (h : tkes x acks 4 = false) : grantF acks x = none := by unfold grantF; rw [if_neg (by simp [h])]
theorem grantF_yes {acks : Int} {x : Ms} (h : tkes x acks 4 = true) : grantF acks x = some (grantY acks x) := by unfold grantF; rw [if_pos h]
theorem ackF_no {x : Ms} (h : (x.kd == 1 || came x) = true) : ackF x = none := by unfold ackF; rw [if_pos h]
theorem ackF_yes {x : Ms} (h : (x.kd == 1 || came x) = false) : ackF x = some (ackY x) := by unfold ackF; rw [if_neg (by simp [h])]
theorem Good.chgd {room k : Int} {l : List Ms} (h : Good room k l) (line : Int) (f : Ms → Option Ms) (hf : ∀ x y, Ok k x → f x = some y → y.ln = x.ln ∧ Ok (k + 1) y) : Good room (k + 1) (chg l line f).2 := by
  rcases hp : fnd l line with _ | i
  · rw [chg_none f hp]; exact h.more (by omega)
  · obtain ⟨x, hx, _, _⟩ := fnd_some hp
    rcases hq : f x with _ | y
    · rw [chg_no hp hx hq]; exact h.more (by omega)
    · rw [chg_yes hp hx hq]
      obtain ⟨h1, h2⟩ := hf x y (h.at hx) hq
      exact h.set hx h1 h2
theorem Good.data {room k : Int} {l : List Ms} (h : Good room k l) (line acks own : Int) (d : Wd) : Good room (k + 1) (chg l line (dataF acks own d)).2 := h.chgd line _ fun x y hx e => by
  rcases Bool.eq_false_or_eq_true (tkes x acks own) with ht | ht
  · rw [dataF_yes d ht] at e; cases e; exact ⟨rfl, hx.data ht⟩
  · rw [dataF_no d ht] at e; cases e
theorem Good.grant {room k : Int} {l : List Ms} (h : Good room k l) (line acks : Int) : Good room (k + 1) (chg l line (grantF acks)).2 := h.chgd line _ fun x y hx e => by
  rcases Bool.eq_false_or_eq_true (tkes x acks 4) with ht | ht
  · rw [grantF_yes ht] at e; cases e; exact ⟨rfl, hx.grant ht⟩
  · rw [grantF_no ht] at e; cases e
theorem Good.ack {room k : Int} {l : List Ms} (h : Good room k l) (line : Int) : Good room (k + 1) (chg l line ackF).2 := h.chgd line _ fun x y hx e => by
  rcases Bool.eq_false_or_eq_true (x.kd == 1 || came x) with ht | ht
  · rw [ackF_no ht] at e; cases e
  · rw [ackF_yes ht] at e; cases e; exact ⟨rfl, hx.ack ht⟩
theorem openP_kind {room : Int} {l : List Ms} {line kind : Int} (h : (kind != 1 && kind != 2) = true) : openP room l line kind = (1, l) := by unfold openP; rw [if_pos h]
theorem openP_twice {room : Int} {l : List Ms} {line kind : Int} (h : (kind != 1 && kind != 2) = false) {i : Nat} (hp : fnd l line = some i) : openP room l line kind = (6, l) := by unfold openP; rw [if_neg (by simp [h]), hp]; rfl
theorem openP_full {room : Int} {l : List Ms} {line kind : Int} (h : (kind != 1 && kind != 2) = false) (hp : fnd l line = none) (hl : (l.length : Int) = room) : openP room l line kind = (4, l) := by unfold openP; rw [if_neg (by simp [h]), hp, if_neg (by simp), if_pos hl]
theorem openP_yes {room : Int} {l : List Ms} {line kind : Int} (h : (kind != 1 && kind != 2) = false) (hp : fnd l line = none) (hl : ¬ (l.length : Int) = room) : openP room l line kind = (0, l ++ [newM line kind]) := by unfold openP; rw [if_neg (by simp [h]), hp, if_neg (by simp), if_neg hl]
theorem Good.open {room k : Int} {l : List Ms} (h : Good room k l) (hk : 0 ≤ k) (line kind : Int) : Good room (k + 1) (openP room l line kind).2 := by
  rcases Bool.eq_false_or_eq_true (kind != 1 && kind != 2) with h1 | h1
  · rw [openP_kind h1]; exact h.more (by omega)
  · rcases hp : fnd l line with _ | i
    · by_cases hl : (l.length : Int) = room
      · rw [openP_full h1 hp hl]; exact h.more (by omega)
      · rw [openP_yes h1 hp hl]
        have hle := h.len
        refine ⟨h.r1, h.r2, by simp; omega, ?_, fun x hx => ?_⟩
        · rw [List.map_append, List.nodup_append]
          refine ⟨h.uq, by simp, fun a ha b hb => ?_⟩
          obtain ⟨x, hx, rfl⟩ := List.mem_map.1 ha
          have hb' : b = line := by simpa [newM] using hb
          rw [hb']
          exact fnd_none hp x hx
        · rcases List.mem_append.1 hx with hx | hx
          · exact (h.each x hx).more (by omega)
          · obtain rfl : x = newM line kind := by simpa using hx
            have hk' : kind = 1 ∨ kind = 2 := by
              simp at h1
              omega
            exact ⟨hk', by simp [newM], by simp [newM], by simp only [newM]; omega, fun e => absurd rfl e, fun e => by simp [newM] at e⟩
    · rw [openP_twice h1 hp]; exact h.more (by omega)
theorem oweP_none {l : List Ms} {line : Int} (h : fnd l line = none) : oweP l line = ((m0, false), l) := by unfold oweP; rw [h]
theorem oweP_no {l : List Ms} {line : Int} {i : Nat} {x : Ms} (h : fnd l line = some i) (hx : l[i]? = some x) (ht : (x.os || !came x) = true) : oweP l line = ((m0, false), l) := by unfold oweP; rw [h]; simp only [hx]; rw [if_pos ht]
theorem oweP_yes {l : List Ms} {line : Int} {i : Nat} {x : Ms} (h : fnd l line = some i) (hx : l[i]? = some x) (ht : (x.os || !came x) = false) : oweP l line = ((x, true), l.set i (owesY x)) := by unfold oweP; rw [h]; simp only [hx]; rw [if_neg (by simp [ht])]
theorem closeP_none {l : List Ms} {line : Int} (h : fnd l line = none) : closeP l line = (5, l) := by unfold closeP; rw [h]
theorem closeP_no {l : List Ms} {line : Int} {i : Nat} {x : Ms} (h : fnd l line = some i) (hx : l[i]? = some x) (ht : x.os = false) : closeP l line = (7, l) := by unfold closeP; rw [h]; simp only [hx]; rw [if_neg (by simp [ht])]
theorem closeP_yes {l : List Ms} {line : Int} {i : Nat} {x : Ms} (h : fnd l line = some i) (hx : l[i]? = some x) (ht : x.os = true) : closeP l line = (0, l.eraseIdx i) := by unfold closeP; rw [h]; simp only [hx]; rw [if_pos ht]
theorem getP_none {l : List Ms} {line : Int} (h : fnd l line = none) : getP l line = (m0, false) := by unfold getP; rw [h]
theorem getP_yes {l : List Ms} {line : Int} {i : Nat} {x : Ms} (h : fnd l line = some i) (hx : l[i]? = some x) : getP l line = (x, true) := by unfold getP; rw [h]; simp only [hx]
theorem owingP_none {l : List Ms} (h : l.findIdx? Ms.os = none) : owingP l = (0, false) := by unfold owingP; rw [h]
theorem owingP_yes {l : List Ms} {i : Nat} {x : Ms} (h : l.findIdx? Ms.os = some i) (hx : l[i]? = some x) : owingP l = (x.ln, true) := by unfold owingP; rw [h]; simp only [hx]
theorem Good.owe {room k : Int} {l : List Ms} (h : Good room k l) (line : Int) : Good room (k + 1) (oweP l line).2 := by
  rcases hp : fnd l line with _ | i
  · rw [oweP_none hp]; exact h.more (by omega)
  · obtain ⟨x, hx, _, _⟩ := fnd_some hp
    rcases Bool.eq_false_or_eq_true (x.os || !came x) with ht | ht
    · rw [oweP_no hp hx ht]; exact h.more (by omega)
    · rw [oweP_yes hp hx ht]
      have ho := (h.at hx).more (show k ≤ k + 1 by omega)
      simp at ht
      exact h.set hx rfl ⟨ho.kd, ho.nd, ho.g0, ho.gk, ho.gn, fun _ => ht.2⟩
theorem Good.close {room k : Int} {l : List Ms} (h : Good room k l) (line : Int) : Good room (k + 1) (closeP l line).2 := by
  rcases hp : fnd l line with _ | i
  · rw [closeP_none hp]; exact h.more (by omega)
  · obtain ⟨x, hx, _, _⟩ := fnd_some hp
    rcases Bool.eq_false_or_eq_true x.os with ht | ht
    · rw [closeP_yes hp hx ht]
      have hs := List.eraseIdx_sublist l i
      have hle := h.len
      have := hs.length_le
      exact ⟨h.r1, h.r2, by show ((l.eraseIdx i).length : Int) ≤ room; omega, h.uq.sublist (hs.map _), fun z hz => (h.each z (hs.subset hz)).more (by omega)⟩
    · rw [closeP_no hp hx ht]; exact h.more (by omega)
theorem Good.doP {room k : Int} {l : List Ms} (h : Good room k l) (hk : 0 ≤ k) (x : Mo) : Good room (k + 1) (doP room l x).2 := by
  unfold Go.Proofs.Ytcfcgejeiihgnaa.doP
  repeat' split
  · exact h.open hk _ _
  · exact h.data _ _ _ _
  · exact h.grant _ _
  · exact h.ack _
  · exact h.owe _
  · exact h.close _

end Go.Proofs.Ytcfcgejeiihgnaa
